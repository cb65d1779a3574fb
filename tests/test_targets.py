import itertools
import random
import unittest

from tests.samples import ANY_VALUES, exactly, nested, wrong_ones
from versionjudge.errors import BadCondition, BadTarget
from versionjudge.targets import (
    alike_holds, condition_holds, condition_text, does_hold, is_condition, is_target, judge_alike, judge_condition,
    target_text,
)

ALWAYS = ("always",)
LINUX, MAC, ARM = ("is", "os", "linux"), ("is", "os", "mac"), ("is", "arch", "arm")
NEVER = ("not", ALWAYS)

PAIRS = [("arch", "arm"), ("arch", "intel"), ("os", "linux"), ("os", "mac"), ("os", "other")]
# The value "other" and the key "libc" occur in no condition: targets may well have them.
TARGETS = [target for arch in ([], [("arch", "arm")], [("arch", "intel")]) for libc in ([], [("libc", "musl")])
           for system in ([], [("os", "linux")], [("os", "mac")], [("os", "other")])
           for target in [tuple(arch + libc + system)]]


def plain_hold(condition, target):
    """What [3.2] says, by a dict and Python's own words."""
    kind = condition[0]
    if kind == "always":
        return True
    if kind == "is":
        return dict(target).get(condition[1]) == condition[2]
    parts = [plain_hold(part, target) for part in condition[1:]]
    return {"not": lambda: not parts[0], "both": lambda: all(parts), "either": lambda: any(parts)}[kind]()


def conditions(depth):
    """All conditions of a depth over three pairs."""
    if depth == 0:
        return [ALWAYS, LINUX, MAC, ARM]
    inner = conditions(depth - 1)
    return inner + [("not", c) for c in inner] + [(kind, c, d) for kind in ("both", "either") for c in inner
                                                  for d in inner]


def some_condition(chance, depth):
    kind = chance.choice(["always", "is", "is", "not", "both", "either"]) if depth else chance.choice(["always", "is"])
    if kind == "always":
        return ALWAYS
    if kind == "is":
        return ("is", *chance.choice(PAIRS[:4]))
    return (kind, *[some_condition(chance, depth - 1) for _ in range(1 if kind == "not" else 2)])


SIX_DEEP = ("not", ("not", ("not", ("not", ("not", ("not", LINUX))))))
TWELVE = ("both", ("both", ("both", LINUX, ALWAYS), ("either", MAC, ARM)), ("either", ("not", NEVER), NEVER))


class KindsTest(unittest.TestCase):
    def test_right_targets(self):
        eight = tuple((letter * 10, "z" * 10) for letter in "abcdefgh")
        for thing in [(), (("os", "linux"),), (("arch", "arm"), ("os", "linux")), (("a", "a"), ("aa", "a")), eight,
                      (("not", "always"),)] + TARGETS:
            self.assertIs(is_target(thing), True, thing)

    def test_wrong_targets(self):
        wrong = [
            (("os", "linux"), ("os", "mac")), (("os", "linux"), ("os", "linux")), (("os", "linux"), ("arch", "arm")),
            (("os",),), (("os", "linux", "x"),), (("OS", "linux"),), (("os", "Linux"),), (("", "linux"),),
            (("os", ""),), (("o" * 11, "a"),), (("os", "a" * 11),), ("os", "linux"), [("os", "linux")],
            (["os", "linux"],), {"os": "linux"}, (("os", None),), (("os", 1),), (("os", True),), ((None, "a"),),
            (("os", ("linux",)),), (("a", "b"), "cd"), ("ab",), (("a", "b"), ()), "os=linux", (("o1", "a"),),
            (("aa", "a"), ("a", "a")), (("os", "lin ux"),),
        ]
        for thing in wrong:
            self.assertIs(is_target(thing), False, thing)
        for thing in ANY_VALUES:
            self.assertIs(is_target(thing), exactly(thing) == exactly(()), thing)

    def test_right_conditions(self):
        for thing in [ALWAYS, LINUX, NEVER, SIX_DEEP, TWELVE, ("is", "always", "not"), ("is", "a" * 10, "z" * 10),
                      ("both", LINUX, LINUX), ("either", NEVER, ("both", ALWAYS, MAC))]:
            self.assertIs(is_condition(thing), True, thing)

    def test_wrong_conditions(self):
        wrong = [
            (), "always", ["always"], ("always", ()), ("always", ALWAYS), ("Always",), ("never",), ("is",),
            ("is", "os"), ("is", "os", "linux", "x"), ("is", "OS", "linux"), ("is", "os", "Linux"), ("is", "", "a"),
            ("is", "os", ""), ("is", "os", None), ("is", "os", 1), ("is", ("os",), "a"), ("is", "o" * 11, "a"),
            ("is", ("os", "linux")), ("not",), ("not", LINUX, MAC), ("not", "always"), ("not", ["always"]),
            ("not", ()), ("not", LINUX, ()), ("both",), ("both", LINUX), ("both", LINUX, MAC, ARM),
            ("both", LINUX, "always"), ("either", LINUX), ("either", (), LINUX), ("either", LINUX, None),
            ("and", LINUX, MAC), ("or", LINUX, MAC), ("not", ("is", "os", "LINUX")), (LINUX,), (ALWAYS, ALWAYS),
            (None, LINUX), ({}, LINUX), ([], LINUX), (True,), (("always",),), [*LINUX], ("is", ["os"], "a"),
            ("both", LINUX, [*MAC]), ("not", nested(13)), ("both", nested(13), LINUX), ("either", ALWAYS, nested(13)),
        ]
        for thing in wrong + ANY_VALUES:
            self.assertIs(is_condition(thing), False, thing)

    def test_changed_values(self):
        for thing in wrong_ones([(("arch", "arm"), ("os", "linux"))]):
            self.assertIsInstance(is_target(thing), bool)
            if is_target(thing):
                self.assertTrue(all(type(key) is str and type(value) is str for key, value in thing))
        for thing in wrong_ones([("both", ("not", LINUX), ("either", ALWAYS, MAC))]):
            self.assertIsInstance(is_condition(thing), bool)
            if is_condition(thing):
                self.assertIn(thing[0], ("always", "is", "not", "both", "either"))


class HoldTest(unittest.TestCase):
    def test_against_plain_words(self):
        for condition in conditions(1) + [SIX_DEEP, TWELVE]:
            for target in TARGETS:
                self.assertIs(does_hold(condition, target), plain_hold(condition, target), (condition, target))

    def test_empty_target(self):
        self.assertIs(does_hold(ALWAYS, ()), True)
        self.assertIs(does_hold(LINUX, ()), False)
        self.assertIs(does_hold(("not", LINUX), ()), True)

    def test_the_whole_pair_counts(self):
        target = (("arch", "linux"), ("os", "arch"))
        self.assertIs(does_hold(LINUX, target), False)
        self.assertIs(does_hold(("is", "arch", "os"), target), False)
        self.assertIs(does_hold(("is", "arch", "linux"), target), True)


class BadArgumentsTest(unittest.TestCase):
    def check_error(self, kind, thing, call, *arguments):
        with self.assertRaises(kind) as caught:
            call(*arguments)
        self.assertIs(caught.exception.thing, thing)

    def test_does_hold_and_texts(self):
        for thing in wrong_ones([("both", LINUX, NEVER)]):
            if not is_condition(thing):
                self.check_error(BadCondition, thing, does_hold, thing, ())
                self.check_error(BadCondition, thing, does_hold, thing, None)
                self.check_error(BadCondition, thing, condition_text, thing)
        for thing in wrong_ones([(("arch", "arm"), ("os", "linux"))]):
            if not is_target(thing):
                self.check_error(BadTarget, thing, does_hold, LINUX, thing)
                self.check_error(BadTarget, thing, target_text, thing)

    def test_the_earlier_of_two_conditions(self):
        one, other = ["one"], ("is", "os", "LINUX")
        for call, rest in ((judge_alike, ()), (judge_condition, ()), (alike_holds, (None,)), (condition_holds, (1,))):
            self.check_error(BadCondition, one, call, one, other, *rest)
            self.check_error(BadCondition, other, call, other, one, *rest)
            self.check_error(BadCondition, other, call, LINUX, other, *rest)
            for thing in ANY_VALUES:
                self.check_error(BadCondition, thing, call, thing, MAC, *rest)
                self.check_error(BadCondition, thing, call, NEVER, thing, *rest)


class CertificatesTest(unittest.TestCase):
    def check(self, one, other, word, judge, holds, against):
        """Check the certificate of two conditions, and what else is one among targets and words."""
        found = [target for target in TARGETS if against(plain_hold(one, target), plain_hold(other, target))]
        certificate = judge(one, other)
        self.assertIs(holds(one, other, certificate), True, (one, other))
        if found:
            self.assertEqual((certificate[0], len(certificate)), ("target", 2))
            self.assertIs(is_target(certificate[1]), True)
            self.assertTrue(against(plain_hold(one, certificate[1]), plain_hold(other, certificate[1])))
        else:
            self.assertEqual(certificate, (word,))
        self.assertIs(holds(one, other, (word,)), not found, (one, other))
        for target in TARGETS:
            self.assertIs(holds(one, other, ("target", target)), target in found, (one, other, target))

    def check_both(self, one, other):
        self.check(one, other, "alike", judge_alike, alike_holds, lambda a, b: a != b)
        self.check(one, other, "within", judge_condition, condition_holds, lambda a, b: a and not b)

    def test_all_small_conditions(self):
        for one, other in itertools.product(conditions(1)[::3] + conditions(0), repeat=2):
            self.check_both(one, other)

    def test_larger_conditions(self):
        chance = random.Random(3)
        for _ in range(400):
            self.check_both(some_condition(chance, 3), some_condition(chance, 3))
        self.check_both(SIX_DEEP, LINUX)
        self.check_both(TWELVE, SIX_DEEP)

    def test_laws(self):
        for c, d in itertools.product([LINUX, ARM, ("either", MAC, ARM)], repeat=2):
            neither, both = ("not", ("either", c, d)), ("both", ("not", c), ("not", d))
            self.assertEqual(judge_alike(neither, both), ("alike",))
            self.assertEqual(judge_condition(("both", c, d), c), ("within",))
            self.assertEqual(judge_condition(c, ("either", c, d)), ("within",))
        self.assertEqual(judge_alike(("both", LINUX, MAC), NEVER), ("alike",))
        self.assertEqual(judge_condition(NEVER, LINUX), ("within",))
        self.assertEqual(judge_condition(LINUX, ("not", MAC)), ("within",))

    def test_a_target_may_lack_each_key_or_have_another_value(self):
        # Only targets without linux and mac tell these apart.
        self.assertEqual(judge_condition(("not", LINUX), MAC)[0], "target")
        self.assertIs(condition_holds(("not", LINUX), MAC, ("target", ())), True)
        self.assertIs(condition_holds(("not", LINUX), MAC, ("target", (("os", "beos"),))), True)
        self.assertIs(condition_holds(("not", LINUX), MAC, ("target", (("os", "mac"),))), False)
        self.assertIs(condition_holds(("not", LINUX), MAC, ("target", (("cpu", "arm"), ("os", "a"))),), True)

    def test_four_keys_and_eight_pairs(self):
        parts = [("is", key, value) for key in ("a", "b", "c", "d") for value in ("x", "y")]
        one, other = parts[0], parts[1]
        for k in range(0, 8, 2):
            one, other = ("both", one, ("not", parts[k])), ("both", other, ("not", parts[k + 1]))
        self.assertEqual(judge_alike(one, other), ("alike",))
        chain = ("both", ("both", parts[0], parts[2]), ("both", parts[4], parts[6]))
        last = ("both", ("both", parts[0], parts[2]), ("both", parts[4], parts[7]))
        target = (("a", "x"), ("b", "x"), ("c", "x"), ("d", "x"))
        self.assertEqual(judge_condition(chain, last), ("target", target))

    def test_nothing_else_is_a_certificate(self):
        others = [
            ("alike",), ("within",), ("same",), ("target",), ("target", None), ("target", ["os", "linux"]), ["alike"],
            ("alike", ()), ("within", ()), ("target", (), ()), ["target", ()], ("target", [("os", "linux")]),
            ("target", (["os", "linux"],)), ("target", (("os", "linux"), ("os", "mac"))), ("Target", ()), "alike",
            ("target", (("os", "linux"), ("arch", "arm"))), ("target", {}), ("target", ""), ("target", False),
            (("alike",),), ("target", ("os", "linux")), (b"alike",), ("choice", ()),
        ]
        cases = [
            (alike_holds, LINUX, LINUX, ("alike",)), (alike_holds, NEVER, ALWAYS, ("target", ())),
            (condition_holds, LINUX, LINUX, ("within",)), (condition_holds, ALWAYS, NEVER, ("target", ())),
            (alike_holds, LINUX, NEVER, ("target", (("os", "linux"),))),
            (condition_holds, LINUX, NEVER, ("target", (("os", "linux"),))),
        ]
        for holds, one, other, right in cases:
            self.assertIs(holds(one, other, right), True)
            for thing in others + wrong_ones([right]):
                expected = exactly(thing) == exactly(right)
                if is_target_certificate(thing):
                    at_one, at_other = plain_hold(one, thing[1]), plain_hold(other, thing[1])
                    expected = at_one and not at_other or (holds is alike_holds and at_other and not at_one)
                self.assertIs(holds(one, other, thing), expected, (one, other, thing))


def is_target_certificate(thing):
    return isinstance(thing, tuple) and len(thing) == 2 and thing[0] == "target" and is_target(thing[1])


if __name__ == "__main__":
    unittest.main()
