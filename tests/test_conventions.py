import copy
import importlib
import inspect
import unittest

from tests.samples import ANY_VALUES, exactly
from versionjudge.errors import VersionError

ONE, TWO = (1, 0, 0, 3, 0), (2, 0, 0, 3, 0)
LOW, HIGH = ((ONE, TWO),), ((TWO, None),)

# The values of the examples of the document.
LINUX, NEITHER = ("is", "os", "linux"), ("not", ("either", ("is", "os", "linux"), ("is", "os", "mac")))
ARM = (("arch", "arm"), ("os", "linux"))
CORE = ("core", ((ONE, TWO),), ("fast", "safe"), ("is", "os", "mac"))
BARE = (ONE, (), (), (), (), False)
STORES = (("main", (("app", ((TWO, (("core", ((ONE, None),), (), ("always",)),), (), (), (), False),)),
                    ("core", (BARE,)))),
          ("side", (("core", ((TWO, (), (), (), (("base", ONE),), True),)),)))
SIDE_TEXT = "store side\nshelf core\nrelease 2.0.0\nwithdrawn\nstand base 1.0.0"
EVERY, ALWAYS = (((0, 0, 0, 0, 0), None),), ("always",)
NEW, OLD = [(version, (("core", span, (), ALWAYS),), (), (), (), False) for version, span in ((TWO, HIGH), (ONE, LOW))]
WORLD = (("main", (("app", (OLD, NEW)), ("core", (BARE,)))),)
ASKS = ((("app", EVERY, (), ALWAYS),), (), (), ("newest", "all", False))
FEW = ((3, 2), (((0, (0,)),), ((0, (1,)),), ((0, (2,)), (1, (0,)))))
LINES = (("given", 0), ("given", 1), ("join", 0, 0, 1), ("given", 2))
BAR = ((0, (2,)), (1, (0,)))

# For each function of the interface: its parameters, and arguments with what they give.
INTERFACE = {
    "versions": {
        "is_version": (["thing"], (ONE,), True), "is_early": (["version"], (ONE,), False),
        "next_version": (["version"], (ONE,), (1, 0, 1, 0, 0)), "version_text": (["version"], (ONE,), "1.0.0"),
        "read_version": (["text"], ("1.0.0",), ONE),
    },
    "ranges": {
        "is_range": (["thing"], (LOW,), True), "every": ([], (), (((0, 0, 0, 0, 0), None),)),
        "only": (["version"], (ONE,), ((ONE, (1, 0, 1, 0, 0)),)), "has": (["span", "version"], (LOW, TWO), False),
        "least_in": (["span"], (LOW,), ONE), "joined": (["one", "other"], (LOW, HIGH), ((ONE, None),)),
        "cut": (["one", "other"], (LOW, HIGH), ()), "without": (["one", "other"], (LOW, HIGH), LOW),
        "judge_within": (["one", "other"], (LOW, HIGH), ("version", ONE)),
        "within_holds": (["one", "other", "thing"], (LOW, HIGH, ("version", ONE)), True),
        "judge_same": (["one", "other"], (HIGH, LOW), ("version", ONE)),
        "same_holds": (["one", "other", "thing"], (HIGH, LOW, ("same",)), False),
        "range_text": (["span"], (LOW,), ">=1.0.0 <2.0.0"), "read_range": (["text"], (">=1.0.0 <2.0.0",), LOW),
    },
    "targets": {
        "is_target": (["thing"], (ARM,), True), "is_condition": (["thing"], (("is", "OS", "linux"),), False),
        "does_hold": (["condition", "target"], (NEITHER, ()), True),
        "judge_alike": (["one", "other"], (("not", ("not", LINUX)), LINUX), ("alike",)),
        "alike_holds": (["one", "other", "thing"], (LINUX, NEITHER, ("target", ())), True),
        "judge_condition": (["one", "other"], (LINUX, NEITHER), ("target", (("os", "linux"),))),
        "condition_holds": (["one", "other", "thing"], (LINUX, NEITHER, ("target", ())), False),
        "condition_text": (["condition"], (NEITHER,), "not (os=linux or os=mac)"),
        "target_text": (["target"], (ARM,), "arch=arm,os=linux"), "read_target": (["text"], ("",), ()),
        "read_condition": (["text"], ("(os=mac and not always)",), ("both", ("is", "os", "mac"), ("not", ALWAYS))),
    },
    "stores": {
        "is_need": (["thing"], (CORE,), True), "is_release": (["thing"], (BARE,), True),
        "is_store": (["thing"], (STORES,), False), "is_world": (["thing"], (STORES,), True),
        "names_of": (["world"], (STORES,), ("app", "core")),
        "shown": (["world", "name", "sight"], (STORES, "core", "first"), (("main", BARE),)),
        "stand_ins": (["world", "name", "sight"], (STORES, "base", "all"), (("core", "side", TWO, ONE),)),
        "lacking": (["world"], (STORES,), ()),
        "need_text": (["need"], (CORE,), "core[fast,safe] >=1.0.0 <2.0.0 if os=mac"),
        "read_need": (["text"], ("core ^1.0.0",), ("core", ((ONE, (2, 0, 0, 0, 0)),), (), ALWAYS)),
        "world_text": (["world"], (STORES[1:],), SIDE_TEXT), "read_world": (["text"], (SIDE_TEXT,), STORES[1:]),
    },
    "asks": {
        "is_asks": (["thing"], (ASKS,), True), "reached": (["world", "asks"], (WORLD, ASKS), ("app", "core")),
        "variables": (["world", "asks"], (WORLD, ASKS), (("app", ""), ("core", ""))),
        "states": (["world", "asks", "i"], (WORLD, ASKS, 0), (("none",), ("own", "main", TWO), ("own", "main", ONE))),
        "is_choice": (["world", "asks", "thing"], (WORLD, ASKS, (2, 1)), True),
        "is_right": (["world", "asks", "choice"], (WORLD, ASKS, (1, 1)), False),
        "told": (["world", "asks", "choice"], (WORLD, ASKS, (2, 1)),
                 ((("app", ("own", "main", ONE)), ("core", ("own", "main", ONE))), ())),
    },
    "problems": {
        "is_problem": (["thing"], (FEW,), True), "is_bar": (["sizes", "thing"], ((3, 2), ((1, (0, 1)),)), False),
        "is_choice_of": (["problem", "thing"], (FEW, (2, 1)), True),
        "does_meet": (["problem", "choice", "bar"], (FEW, (2, 0), BAR), True),
        "is_right_choice": (["problem", "choice"], (FEW, (2, 0)), False),
        "join": (["problem", "i", "one", "other"], (FEW, 0, ((0, (0,)), (1, (0,))), ((0, (1,)), (1, (1,)))), None),
        "are_lines": (["problem", "thing"], (FEW, LINES), True),
        "bars_of": (["problem", "lines"], (FEW, LINES), (*FEW[1][:2], ((0, (0, 1)),), FEW[1][2])),
        "do_cover": (["problem", "lines", "bar"], (FEW, LINES[:3], ((0, (1,)),)), True),
        "judge_bar": (["problem", "bar"], (FEW, ()), ("choice", (2, 1))),
        "bar_holds": (["problem", "bar", "thing"], (FEW, ((0, (1,)),), ("lines", (("given", 1),))), True),
    },
}

# The error for each parameter that has one, and others for parameters of some files.
ERRORS = {
    "version": "BadVersion", "span": "BadRange", "condition": "BadCondition", "target": "BadTarget", "need": "BadNeed",
    "world": "BadWorld", "name": "BadWord", "sight": "BadSight", "asks": "BadAsks", "i": "BadNumber",
    "choice": "BadChoice", "problem": "BadProblem", "sizes": "BadProblem", "bar": "BadBar", "lines": "BadLines",
}
OPERANDS = {"ranges": "BadRange", "targets": "BadCondition", "problems": "BadBar"}

# Which of the values of all kinds are accepted as the thing, beside the other arguments above.
ACCEPTED = {
    "is_range": [()], "is_target": [()], "is_store": [("version", ())], "is_problem": [((), ())], "is_bar": [()],
    "are_lines": [()],
}


def functions():
    for file, entries in INTERFACE.items():
        module = importlib.import_module(f"versionjudge.{file}")
        for name, (parameters, arguments, result) in entries.items():
            yield getattr(module, name), file, parameters, arguments, result


def outcome(call, arguments):
    """What a call returns or raises, in a form in which equal means the same in kind, too."""
    try:
        return exactly(call(*arguments))
    except VersionError as error:
        return (type(error).__name__, exactly(list(vars(error).items())))


class ConventionsTest(unittest.TestCase):
    def test_names_and_files(self):
        for call, file, parameters, _, _ in functions():
            self.assertEqual(call.__module__, f"versionjudge.{file}")
            self.assertEqual(list(inspect.signature(call).parameters), parameters, call.__name__)

    def test_by_position_and_by_name(self):
        for call, _, parameters, arguments, result in functions():
            self.assertEqual(exactly(call(*arguments)), exactly(result), call.__name__)
            named = dict(zip(parameters, arguments))
            self.assertEqual(exactly(call(**named)), exactly(result), call.__name__)
            self.assertEqual(exactly(call(**dict(reversed(named.items())))), exactly(result), call.__name__)

    def test_any_value_for_each_parameter_raises_own_errors_only(self):
        for call, _, parameters, arguments, _ in functions():
            for at, parameter in enumerate(parameters):
                for thing in ANY_VALUES:
                    passed = arguments[:at] + (copy.deepcopy(thing),) + arguments[at + 1:]
                    before = copy.deepcopy(passed)
                    first = outcome(call, passed)
                    self.assertEqual(exactly(passed), exactly(before), call.__name__)
                    self.assertEqual(outcome(call, passed), first, call.__name__)
                    if parameter == "thing":
                        accepted = [exactly(value) for value in ACCEPTED.get(call.__name__, [])]
                        self.assertEqual(first, exactly(exactly(thing) in accepted), (call.__name__, thing))

    def test_a_bad_argument_is_named_by_the_error(self):
        for call, file, parameters, arguments, _ in functions():
            for at, parameter in enumerate(parameters):
                kind = ERRORS.get(parameter, OPERANDS.get(file) if parameter in ("one", "other") else None)
                for thing in [None, True, [], {}, "1.0.0", [ONE, TWO], list(ONE), ((ONE, TWO), [TWO, None])]:
                    passed = arguments[:at] + (thing,) + arguments[at + 1:]
                    if kind is not None:
                        self.assertEqual(outcome(call, passed), (kind, exactly([("thing", thing)])), call.__name__)
                    elif parameter == "text" and not isinstance(thing, str):
                        self.assertEqual(outcome(call, passed), ("BadText", exactly([("at", -1)])), call.__name__)

    def test_of_several_errors_the_first_parameter_counts(self):
        for call, file, parameters, arguments, _ in functions():
            bad = tuple(["bad", parameter] for parameter in parameters)
            for at, parameter in enumerate(parameters):
                kind = ERRORS.get(parameter, OPERANDS.get(file) if parameter in ("one", "other") else None)
                if kind is not None:
                    expected = (kind, exactly([("thing", bad[at])]))
                    self.assertEqual(outcome(call, arguments[:at] + bad[at:]), expected, (call.__name__, parameter))

    def test_wrong_texts_by_position_and_by_name(self):
        wrong = {"versions": ("read_version", "1.02.3", 3), "ranges": ("read_range", ">=1.0.0 | 2", 9),
                 "targets": ("read_condition", "(os=mac or )", 11),
                 "stores": ("read_world", "store main\nshelf core", 3)}
        for file, (name, text, at) in wrong.items():
            call = getattr(importlib.import_module(f"versionjudge.{file}"), name)
            self.assertEqual(outcome(call, (text,)), ("BadText", exactly([("at", at)])))
            self.assertEqual(outcome(lambda: call(text=text), ()), ("BadText", exactly([("at", at)])))

    def test_is_and_holds_return_bools(self):
        for call, _, _, arguments, _ in functions():
            name = call.__name__
            if name.startswith(("is_", "are_", "does_", "do_")) or name.endswith(("_hold", "_holds")):
                self.assertIsInstance(call(*arguments), bool)


if __name__ == "__main__":
    unittest.main()
