import copy
import importlib
import inspect
import unittest

from tests.samples import ANY_VALUES, DESK, exactly
from versionjudge.errors import VersionError

ONE, TWO = (1, 0, 0, 3, 0), (2, 0, 0, 3, 0)
LOW, HIGH = ((ONE, TWO),), ((TWO, None),)

# The values of the examples of the document.
LINUX, NEITHER = ("is", "os", "linux"), ("not", ("either", ("is", "os", "linux"), ("is", "os", "mac")))
ARM = (("arch", "arm"), ("os", "linux"))
CORE = ("core", ((ONE, TWO),), ("fast", "safe"), ("is", "os", "mac"))
BARE = (ONE, (), (), (), (), False)
STORES = (("main", (("app", ((TWO, (("core", ((ONE, None),), (), ("always",)),), (), (), (), False),)),
                    ("core", (BARE,)))),
          ("side", (("core", ((TWO, (), (), (), (("base", ONE),), True),)),)))
SIDE_TEXT = "store side\nshelf core\nrelease 2.0.0\nwithdrawn\nstand base 1.0.0"
EVERY, ALWAYS = (((0, 0, 0, 0, 0), None),), ("always",)
NEW, OLD = [(version, (("core", span, (), ALWAYS),), (), (), (), False) for version, span in ((TWO, HIGH), (ONE, LOW))]
WORLD = (("main", (("app", (OLD, NEW)), ("core", (BARE,)))),)
ASKS = ((("app", EVERY, (), ALWAYS),), (), (), ("newest", "all", False))
FEW = ((3, 2), (((0, (0,)),), ((0, (1,)),), ((0, (2,)), (1, (0,)))))
LINES = (("given", 0), ("given", 1), ("join", 0, 0, 1), ("given", 2))
BAR = ((0, (2,)), (1, (0,)))
FIRST_LINES = ("choice", (2, 1), LINES, (2, 3))
GIVEN = (FEW[1], (("wish", 0, ""), ("need", 0, 1, 0, ""), ("need", 0, 2, 0, "")))
HARD = ((("app", HIGH, (), ALWAYS),), *ASKS[1:])
CLASH = ("clash", (0,), LINES[:3], ((0, 0),))
ROW = "1: given 1, wish 1 app *: never app is none"
LOCK = ((), (("app", ("own", "main", ONE), ()), ("core", ("own", "main", ONE), ())))
LOCK_TEXT = "target\napp main 1.0.0\ncore main 1.0.0"
PLACES = (("app", ("main", ONE)), ("core", ("main", ONE)))
# A world in which app and core can be moved together only, with the choices before and after.
PAIR = (("main", (("app", (OLD, NEW)), ("core", (BARE, (TWO, *BARE[1:]))))),)
TOGETHER = (PAIR, ASKS, (2, 2), (1, 1))
PLAN = ("plan", (("app", "core"),), ((("app", "core", 1), ("core", "app", 2)),))
TARGETS = ((),)
DESK_TEXT = "store main\nshelf core\nrelease 1.0.0\nfor\nmanner newest all whole"

# Parameters of several functions.
CHANGE, SPREAD = ["world", "asks", "one", "other"], ["world", "asks", "targets"]

# For each function of the interface: its parameters, and arguments with what they give.
INTERFACE = {
    "versions": {
        "is_version": (["thing"], (ONE,), True), "is_early": (["version"], (ONE,), False),
        "next_version": (["version"], (ONE,), (1, 0, 1, 0, 0)), "version_text": (["version"], (ONE,), "1.0.0"),
        "read_version": (["text"], ("1.0.0",), ONE),
    },
    "ranges": {
        "is_range": (["thing"], (LOW,), True), "every": ([], (), (((0, 0, 0, 0, 0), None),)),
        "only": (["version"], (ONE,), ((ONE, (1, 0, 1, 0, 0)),)), "has": (["span", "version"], (LOW, TWO), False),
        "least_in": (["span"], (LOW,), ONE), "joined": (["one", "other"], (LOW, HIGH), ((ONE, None),)),
        "cut": (["one", "other"], (LOW, HIGH), ()), "without": (["one", "other"], (LOW, HIGH), LOW),
        "judge_within": (["one", "other"], (LOW, HIGH), ("version", ONE)),
        "within_holds": (["one", "other", "thing"], (LOW, HIGH, ("version", ONE)), True),
        "judge_same": (["one", "other"], (HIGH, LOW), ("version", ONE)),
        "same_holds": (["one", "other", "thing"], (HIGH, LOW, ("same",)), False),
        "range_text": (["span"], (LOW,), ">=1.0.0 <2.0.0"), "read_range": (["text"], (">=1.0.0 <2.0.0",), LOW),
    },
    "targets": {
        "is_target": (["thing"], (ARM,), True), "is_condition": (["thing"], (("is", "OS", "linux"),), False),
        "does_hold": (["condition", "target"], (NEITHER, ()), True),
        "judge_alike": (["one", "other"], (("not", ("not", LINUX)), LINUX), ("alike",)),
        "alike_holds": (["one", "other", "thing"], (LINUX, NEITHER, ("target", ())), True),
        "judge_condition": (["one", "other"], (LINUX, NEITHER), ("target", (("os", "linux"),))),
        "condition_holds": (["one", "other", "thing"], (LINUX, NEITHER, ("target", ())), False),
        "condition_text": (["condition"], (NEITHER,), "not (os=linux or os=mac)"),
        "target_text": (["target"], (ARM,), "arch=arm,os=linux"), "read_target": (["text"], ("",), ()),
        "read_condition": (["text"], ("(os=mac and not always)",), ("both", ("is", "os", "mac"), ("not", ALWAYS))),
    },
    "stores": {
        "is_need": (["thing"], (CORE,), True), "is_release": (["thing"], (BARE,), True),
        "is_store": (["thing"], (STORES,), False), "is_world": (["thing"], (STORES,), True),
        "names_of": (["world"], (STORES,), ("app", "core")),
        "shown": (["world", "name", "sight"], (STORES, "core", "first"), (("main", BARE),)),
        "stand_ins": (["world", "name", "sight"], (STORES, "base", "all"), (("core", "side", TWO, ONE),)),
        "lacking": (["world"], (STORES,), ()),
        "need_text": (["need"], (CORE,), "core[fast,safe] >=1.0.0 <2.0.0 if os=mac"),
        "read_need": (["text"], ("core ^1.0.0",), ("core", ((ONE, (2, 0, 0, 0, 0)),), (), ALWAYS)),
        "world_text": (["world"], (STORES[1:],), SIDE_TEXT), "read_world": (["text"], (SIDE_TEXT,), STORES[1:]),
    },
    "asks": {
        "is_asks": (["thing"], (ASKS,), True), "reached": (["world", "asks"], (WORLD, ASKS), ("app", "core")),
        "variables": (["world", "asks"], (WORLD, ASKS), (("app", ""), ("core", ""))),
        "states": (["world", "asks", "i"], (WORLD, ASKS, 0), (("none",), ("own", "main", TWO), ("own", "main", ONE))),
        "is_choice": (["world", "asks", "thing"], (WORLD, ASKS, (2, 1)), True),
        "is_right": (["world", "asks", "choice"], (WORLD, ASKS, (1, 1)), False),
        "told": (["world", "asks", "choice"], (WORLD, ASKS, (2, 1)),
                 ((("app", ("own", "main", ONE)), ("core", ("own", "main", ONE))), ())),
    },
    "problems": {
        "is_problem": (["thing"], (FEW,), True), "is_bar": (["sizes", "thing"], ((3, 2), ((1, (0, 1)),)), False),
        "is_choice_of": (["problem", "thing"], (FEW, (2, 1)), True),
        "does_meet": (["problem", "choice", "bar"], (FEW, (2, 0), BAR), True),
        "is_right_choice": (["problem", "choice"], (FEW, (2, 0)), False),
        "join": (["problem", "i", "one", "other"], (FEW, 0, ((0, (0,)), (1, (0,))), ((0, (1,)), (1, (1,)))), None),
        "are_lines": (["problem", "thing"], (FEW, LINES), True),
        "bars_of": (["problem", "lines"], (FEW, LINES), (*FEW[1][:2], ((0, (0, 1)),), FEW[1][2])),
        "do_cover": (["problem", "lines", "bar"], (FEW, LINES[:3], ((0, (1,)),)), True),
        "judge_bar": (["problem", "bar"], (FEW, ()), ("choice", (2, 1))),
        "bar_holds": (["problem", "bar", "thing"], (FEW, ((0, (1,)),), ("lines", (("given", 1),))), True),
    },
    "resolver": {
        "resolve": (["problem"], (FEW,), FIRST_LINES), "resolve_holds": (["problem", "thing"], (FEW, FIRST_LINES),
                                                                         True),
        "first_choice": (["problem"], (FEW,), (2, 1)), "plain_first": (["problem"], (FEW,), (2, 1)),
        "possible": (["problem"], (FEW,), ((2,), (1,))),
    },
    "demands": {
        "problem_of": (["world", "asks"], (WORLD, ASKS), ((3, 2), GIVEN[0])),
        "causes": (["world", "asks"], (WORLD, ASKS), GIVEN[1]), "chosen": (["world", "asks"], (WORLD, ASKS), (2, 1)),
        "answer": (["world", "asks"], (WORLD, ASKS), FIRST_LINES),
        "answer_holds": (["world", "asks", "thing"], (WORLD, ASKS, FIRST_LINES), True),
    },
    "questions": {
        "judge_state": (["world", "asks", "i", "s"], (WORLD, ASKS, 0, 1), ("lines", (("given", 1),))),
        "state_holds": (["world", "asks", "i", "s", "thing"], (WORLD, ASKS, 1, 1, ("choice", (2, 1))), True),
        "judge_clash": (["world", "asks"], (WORLD, HARD), CLASH),
        "clash_holds": (["world", "asks", "thing"], (WORLD, HARD, CLASH), True),
        "sure": (["world", "asks"], (WORLD, ASKS), (("app", ("own", "main", ONE)), ("core", ("own", "main", ONE)))),
        "names_in": (["world", "asks"], (WORLD, ASKS), ("app", "core")),
        "names_out": (["world", "asks"], (WORLD, ASKS), ()),
    },
    "stories": {
        "variable_text": (["world", "asks", "i"], (WORLD, ASKS, 1), "core"),
        "state_text": (["world", "asks", "i", "s"], (WORLD, ASKS, 1, 1), "main 1.0.0"),
        "bar_text": (["world", "asks", "bar"], (WORLD, ASKS, BAR), "app is main 1.0.0, core is none"),
        "story": (["world", "asks", "lines"], (WORLD, ASKS, LINES[:1]), (ROW,)),
        "read_story": (["world", "asks", "thing"], (WORLD, ASKS, (ROW,)), LINES[:1]),
        "tells_none": (["world", "asks", "thing"], (WORLD, ASKS, (ROW,)), False),
        "shortened": (["problem", "lines", "ends"], (FEW, LINES, (3, None)), ((("given", 2),), (0, None))),
        "depth_of": (["problem", "lines"], (FEW, LINES), 1),
    },
    "locks": {
        "is_lock": (["thing"], (LOCK,), True), "lock_of": (["world", "asks", "choice"], (WORLD, ASKS, (2, 1)), LOCK),
        "choice_of": (["world", "asks", "lock"], (WORLD, ASKS, LOCK), (2, 1)),
        "judge_lock": (["world", "asks", "lock"], (WORLD, ASKS, LOCK), ("kept", (2, 1))),
        "lock_holds": (["world", "asks", "lock", "thing"], (WORLD, ASKS, ((), ()), ("bar", 0)), True),
        "with_kept": (["asks", "lock"], (ASKS, LOCK), (*ASKS[:2], PLACES, ASKS[3])),
        "changes": (["lock", "other"], (LOCK, ((), LOCK[1][1:])), (("app", LOCK[1][0][1:], None),)),
        "lock_text": (["lock"], (LOCK,), LOCK_TEXT), "read_lock": (["text"], (LOCK_TEXT,), LOCK),
    },
    "plans": {
        "moved": (CHANGE, TOGETHER, ("app", "core")), "binds": (CHANGE, TOGETHER, PLAN[2][0]),
        "standing": ([*CHANGE, "names"], (*TOGETHER, ("core",)), (2, 1)),
        "is_plan": ([*CHANGE, "thing"], (*TOGETHER, PLAN[1]), True),
        "judge_plan": (CHANGE, TOGETHER, PLAN), "plan_holds": ([*CHANGE, "thing"], (*TOGETHER, PLAN), True),
        "lots": (CHANGE, TOGETHER, PLAN[1]), "ahead": (CHANGE, TOGETHER, ()),
    },
    "spreads": {
        "spread_problem": (SPREAD, (WORLD, ASKS, TARGETS), ((3, 2), GIVEN[0])),
        "is_right_spread": ([*SPREAD, "thing"], (WORLD, ASKS, TARGETS, ((2, 1),)), True),
        "spread_answer": (SPREAD, (WORLD, ASKS, TARGETS), FIRST_LINES),
        "spread_holds": ([*SPREAD, "thing"], (WORLD, ASKS, TARGETS, FIRST_LINES), True),
        "first_spread": (SPREAD, (WORLD, ASKS, TARGETS), ((2, 1),)),
    },
    "desks": {"read_desk": (["text"], (DESK_TEXT,), DESK)},
}

# The error for each parameter that has one, and others for parameters of some files.
ERRORS = {
    "version": "BadVersion", "span": "BadRange", "condition": "BadCondition", "target": "BadTarget", "need": "BadNeed",
    "world": "BadWorld", "name": "BadWord", "sight": "BadSight", "asks": "BadAsks", "i": "BadNumber",
    "choice": "BadChoice", "problem": "BadProblem", "sizes": "BadProblem", "bar": "BadBar", "lines": "BadLines",
    "s": "BadNumber", "ends": "BadNumber", "lock": "BadLock", "names": "BadWord", "targets": "BadTargets",
}
OPERANDS = {"ranges": "BadRange", "targets": "BadCondition", "problems": "BadBar", "locks": "BadLock",
            "plans": "BadChoice"}

# Which of the values of all kinds are accepted as the thing, beside the other arguments above.
ACCEPTED = {
    "is_range": [()], "is_target": [()], "is_store": [("version", ())], "is_problem": [((), ())], "is_bar": [()],
    "are_lines": [()], "is_lock": [((), ())],
}


def functions():
    for file, entries in INTERFACE.items():
        module = importlib.import_module(f"versionjudge.{file}")
        for name, (parameters, arguments, result) in entries.items():
            yield getattr(module, name), file, parameters, arguments, result


def outcome(call, arguments):
    """What a call returns or raises, in a form in which equal means the same in kind, too."""
    try:
        return exactly(call(*arguments))
    except VersionError as error:
        return (type(error).__name__, exactly(list(vars(error).items())))


class ConventionsTest(unittest.TestCase):
    def test_names_and_files(self):
        for call, file, parameters, _, _ in functions():
            self.assertEqual(call.__module__, f"versionjudge.{file}")
            self.assertEqual(list(inspect.signature(call).parameters), parameters, call.__name__)

    def test_by_position_and_by_name(self):
        for call, _, parameters, arguments, result in functions():
            self.assertEqual(exactly(call(*arguments)), exactly(result), call.__name__)
            named = dict(zip(parameters, arguments))
            self.assertEqual(exactly(call(**named)), exactly(result), call.__name__)
            self.assertEqual(exactly(call(**dict(reversed(named.items())))), exactly(result), call.__name__)

    def test_any_value_for_each_parameter_raises_own_errors_only(self):
        for call, _, parameters, arguments, _ in functions():
            for at, parameter in enumerate(parameters):
                for thing in ANY_VALUES:
                    passed = arguments[:at] + (copy.deepcopy(thing),) + arguments[at + 1:]
                    before = copy.deepcopy(passed)
                    first = outcome(call, passed)
                    self.assertEqual(exactly(passed), exactly(before), call.__name__)
                    self.assertEqual(outcome(call, passed), first, call.__name__)
                    # The thing of read_story must be a story.
                    if parameter == "thing" and call.__name__ != "read_story":
                        accepted = [exactly(value) for value in ACCEPTED.get(call.__name__, [])]
                        self.assertEqual(first, exactly(exactly(thing) in accepted), (call.__name__, thing))

    def test_a_bad_argument_is_named_by_the_error(self):
        for call, file, parameters, arguments, _ in functions():
            for at, parameter in enumerate(parameters):
                kind = ERRORS.get(parameter, OPERANDS.get(file) if parameter in ("one", "other") else None)
                for thing in [None, True, [], {}, "1.0.0", [ONE, TWO], list(ONE), ((ONE, TWO), [TWO, None])]:
                    passed = arguments[:at] + (thing,) + arguments[at + 1:]
                    if kind is not None:
                        self.assertEqual(outcome(call, passed), (kind, exactly([("thing", thing)])), call.__name__)
                    elif parameter == "text" and not isinstance(thing, str):
                        self.assertEqual(outcome(call, passed), ("BadText", exactly([("at", -1)])), call.__name__)

    def test_of_several_errors_the_first_parameter_counts(self):
        for call, file, parameters, arguments, _ in functions():
            bad = tuple(["bad", parameter] for parameter in parameters)
            for at, parameter in enumerate(parameters):
                kind = ERRORS.get(parameter, OPERANDS.get(file) if parameter in ("one", "other") else None)
                if kind is not None:
                    expected = (kind, exactly([("thing", bad[at])]))
                    self.assertEqual(outcome(call, arguments[:at] + bad[at:]), expected, (call.__name__, parameter))

    def test_wrong_texts_by_position_and_by_name(self):
        wrong = {"versions": ("read_version", "1.02.3", 3), "ranges": ("read_range", ">=1.0.0 | 2", 9),
                 "targets": ("read_condition", "(os=mac or )", 11),
                 "stores": ("read_world", "store main\nshelf core", 3), "locks": ("read_lock", "target\napp", 2),
                 "desks": ("read_desk", "store main\nfor\nmanner", 3)}
        for file, (name, text, at) in wrong.items():
            call = getattr(importlib.import_module(f"versionjudge.{file}"), name)
            self.assertEqual(outcome(call, (text,)), ("BadText", exactly([("at", at)])))
            self.assertEqual(outcome(lambda: call(text=text), ()), ("BadText", exactly([("at", at)])))

    def test_is_and_holds_return_bools(self):
        for call, _, _, arguments, _ in functions():
            name = call.__name__
            if name.startswith(("is_", "are_", "does_", "do_", "tells_")) or name.endswith(("_hold", "_holds")):
                self.assertIsInstance(call(*arguments), bool)


if __name__ == "__main__":
    unittest.main()
