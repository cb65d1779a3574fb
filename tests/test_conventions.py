import copy
import importlib
import inspect
import unittest

from tests.samples import ANY_VALUES, exactly
from versionjudge.errors import VersionError

ONE, TWO = (1, 0, 0, 3, 0), (2, 0, 0, 3, 0)
LOW, HIGH = ((ONE, TWO),), ((TWO, None),)

# For each function of the interface: its parameters, and arguments with what they give.
INTERFACE = {
    "versions": {
        "is_version": (["thing"], (ONE,), True), "is_early": (["version"], (ONE,), False),
        "next_version": (["version"], (ONE,), (1, 0, 1, 0, 0)), "version_text": (["version"], (ONE,), "1.0.0"),
        "read_version": (["text"], ("1.0.0",), ONE),
    },
    "ranges": {
        "is_range": (["thing"], (LOW,), True), "every": ([], (), (((0, 0, 0, 0, 0), None),)),
        "only": (["version"], (ONE,), ((ONE, (1, 0, 1, 0, 0)),)), "has": (["span", "version"], (LOW, TWO), False),
        "least_in": (["span"], (LOW,), ONE), "joined": (["one", "other"], (LOW, HIGH), ((ONE, None),)),
        "cut": (["one", "other"], (LOW, HIGH), ()), "without": (["one", "other"], (LOW, HIGH), LOW),
        "judge_within": (["one", "other"], (LOW, HIGH), ("version", ONE)),
        "within_holds": (["one", "other", "thing"], (LOW, HIGH, ("version", ONE)), True),
        "judge_same": (["one", "other"], (HIGH, LOW), ("version", ONE)),
        "same_holds": (["one", "other", "thing"], (HIGH, LOW, ("same",)), False),
        "range_text": (["span"], (LOW,), ">=1.0.0 <2.0.0"), "read_range": (["text"], (">=1.0.0 <2.0.0",), LOW),
    },
}


def functions():
    for file, entries in INTERFACE.items():
        module = importlib.import_module(f"versionjudge.{file}")
        for name, (parameters, arguments, result) in entries.items():
            yield getattr(module, name), file, parameters, arguments, result


def outcome(call, arguments):
    """What a call returns or raises, in a form in which equal means the same in kind, too."""
    try:
        return exactly(call(*arguments))
    except VersionError as error:
        return (type(error).__name__, exactly(list(vars(error).items())))


class ConventionsTest(unittest.TestCase):
    def test_names_and_files(self):
        for call, file, parameters, _, _ in functions():
            self.assertEqual(call.__module__, f"versionjudge.{file}")
            self.assertEqual(list(inspect.signature(call).parameters), parameters, call.__name__)

    def test_by_position_and_by_name(self):
        for call, _, parameters, arguments, result in functions():
            self.assertEqual(exactly(call(*arguments)), exactly(result), call.__name__)
            named = dict(zip(parameters, arguments))
            self.assertEqual(exactly(call(**named)), exactly(result), call.__name__)
            self.assertEqual(exactly(call(**dict(reversed(named.items())))), exactly(result), call.__name__)

    def test_any_value_for_each_parameter_raises_own_errors_only(self):
        for call, _, parameters, arguments, _ in functions():
            for at, parameter in enumerate(parameters):
                for thing in ANY_VALUES:
                    passed = arguments[:at] + (copy.deepcopy(thing),) + arguments[at + 1:]
                    before = copy.deepcopy(passed)
                    first = outcome(call, passed)
                    self.assertEqual(exactly(passed), exactly(before), call.__name__)
                    self.assertEqual(outcome(call, passed), first, call.__name__)
                    if parameter == "thing":
                        self.assertIn(first, (exactly(True), exactly(False)))
                        self.assertEqual(first, exactly(exactly(thing) == exactly(()) and call.__name__ == "is_range"))

    def test_a_bad_argument_is_named_by_the_error(self):
        kinds = {"version": "BadVersion", "span": "BadRange", "one": "BadRange", "other": "BadRange"}
        for call, _, parameters, arguments, _ in functions():
            for at, parameter in enumerate(parameters):
                if parameter not in kinds:
                    continue
                for thing in [None, True, [], {}, "1.0.0", [ONE, TWO], list(ONE), ((ONE, TWO), [TWO, None])]:
                    passed = arguments[:at] + (thing,) + arguments[at + 1:]
                    expected = (kinds[parameter], exactly([("thing", thing)]))
                    self.assertEqual(outcome(call, passed), expected, call.__name__)

    def test_of_several_errors_the_first_parameter_counts(self):
        for call, _, parameters, _, _ in functions():
            bad = [["bad", parameter] for parameter in parameters]
            if parameters[:1] in (["span"], ["one"]):
                self.assertEqual(outcome(call, bad), ("BadRange", exactly([("thing", bad[0])])), call.__name__)

    def test_is_and_holds_return_bools(self):
        for call, _, _, arguments, _ in functions():
            if call.__name__.startswith("is_") or call.__name__.endswith("_holds"):
                self.assertIsInstance(call(*arguments), bool)


if __name__ == "__main__":
    unittest.main()
