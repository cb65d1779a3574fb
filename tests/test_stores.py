import random
import unittest

from tests.samples import ANY_VALUES, exactly, wrong_ones
from tests.worlds import ALL, ALWAYS, BETA, LINUX, ONE, RC, RICH, THREE, TWO, need, release, some_world
from versionjudge.errors import BadNeed, BadSight, BadWord, BadWorld
from versionjudge.stores import (
    is_need, is_release, is_store, is_world, lacking, names_of, need_text, shown, stand_ins, world_text,
)

CORE = need("core", ((ONE, TWO),), ("fast", "safe"), LINUX)
FULL = RICH[0][1][0][1][1]
TINY = (("main", (("core", (release(ONE),)),)),)


class KindsTest(unittest.TestCase):
    def check(self, call, right, wrong):
        for thing in right:
            self.assertIs(call(thing), True, thing)
        # Among the values of all kinds there is one store, without shelves.
        for thing in wrong + [value for value in ANY_VALUES if value != ("version", ())]:
            self.assertIs(call(thing), False, thing)

    def test_needs(self):
        name, span, options, condition = CORE
        self.check(is_need, [
            CORE, need("a"), need("z" * 10, ()), need("core", ALL, ("a", "b", "c", "d")),
            need("core", ALL, ("a" * 10,)),
        ], [
            (), [*CORE], CORE[:3], (*CORE, None), ("Core", span, options, condition), ("", span, options, condition),
            ("c" * 11, span, options, condition), (None, span, options, condition), (("core",), span, (), ALWAYS),
            (name, [], options, condition), (name, ((TWO, ONE),), (), ALWAYS), (name, ">=1.0.0", (), ALWAYS),
            (name, None, (), ALWAYS), (name, span, ("safe", "fast"), ALWAYS), (name, span, ("fast", "fast"), ALWAYS),
            (name, span, ["fast"], ALWAYS), (name, span, "fast", ALWAYS), (name, span, ("Fast",), ALWAYS),
            (name, span, ("f" * 11,), ALWAYS), (name, span, (1,), ALWAYS), (name, span, None, ALWAYS),
            (name, span, options, ()), (name, span, options, None), (name, span, options, "always"),
            (name, span, options, ["always"]), (name, span, options, ("is", "os")), (span, name, options, condition),
            (name, options, span, condition), (name, span, condition, options), (name, span, ("",), ALWAYS),
        ])

    def test_releases(self):
        right = [FULL, release(ONE), release(BETA, withdrawn=True), release(ONE, needs=(CORE, CORE, need("a"))),
                 release(ONE, bars=(("a", ()), ("b", ALL))), release(ONE, extras=(("a", ()), ("b", (CORE, CORE)))),
                 release(ONE, stands=(("a", ONE), ("a", TWO), ("b", BETA)))]
        wrong = [
            (), [*FULL], FULL[:5], (*FULL, False), release(None), release((1, 0, 0, 3, 1)), release([*ONE]),
            release("1.0.0"), release((True, 0, 0, 3, 0)), release(ONE, needs=[CORE]), release(ONE, needs=CORE),
            release(ONE, needs=(CORE, "core")), release(ONE, needs=None), release(ONE, needs=(("core", ALL),)),
            release(ONE, bars=(("b", ALL), ("a", ALL))), release(ONE, bars=(("a", ALL), ("a", ()))),
            release(ONE, bars=(("A", ALL),)), release(ONE, bars=(("a", None),)), release(ONE, bars=(("a",),)),
            release(ONE, bars=[("a", ALL)]), release(ONE, bars=(["a", ALL],)), release(ONE, bars=(("a", ALL, ()),)),
            release(ONE, extras=(("b", ()), ("a", ()))), release(ONE, extras=(("a", ()), ("a", (CORE,)))),
            release(ONE, extras=(("a", CORE),)), release(ONE, extras=(("a", (None,)),)), release(ONE, extras=(("a",),)),
            release(ONE, extras=(("", ()),)), release(ONE, extras=[("a", ())]), release(ONE, extras=((1, ()),)),
            release(ONE, stands=(("b", ONE), ("a", ONE))), release(ONE, stands=(("a", TWO), ("a", ONE))),
            release(ONE, stands=(("a", ONE), ("a", ONE))), release(ONE, stands=(("a", None),)),
            release(ONE, stands=(("a", ALL),)), release(ONE, stands=(("A", ONE),)), release(ONE, stands=[("a", ONE)]),
            release(ONE, stands=(("a", ONE, ONE),)), release(ONE, stands=(("a", (True, 0, 0, 3, 0)),)),
            release(ONE, stands=(("a", [1, 0, 0, 3, 0]),)), release(ONE, withdrawn=0), release(ONE, withdrawn=1),
            release(ONE, withdrawn=None), release(ONE, withdrawn=()), release(ONE, withdrawn="True"),
            (ONE, (), (), (), False, ()),
        ]
        self.check(is_release, right, wrong)

    def test_stores(self):
        self.check(is_store, [
            *RICH, ("a", ()), ("version", ()),
            ("z" * 10, (("a", (release(ONE),)), ("b", (release(ONE), release(TWO))))),
            ("core", (("core", (release(BETA), release(TWO))),)),
        ], [
            (), ["main", ()], ("main",), ("main", (), ()), ("Main", ()), ("", ()), ("m" * 11, ()), (None, ()),
            ("main", []), ("main", None), ("main", (("core", ()),)), ("main", (("core", []),)), ("main", (("core",),)),
            ("main", (("core", [release(ONE)]),)), ("main", (("core", release(ONE)),)), ("main", ("core",)),
            ("main", (("core", (release(TWO), release(ONE))),)), ("main", (("core", (release(ONE), release(ONE))),)),
            ("main", (("core", (release(TWO), release(BETA))),)), ("main", (("Core", (release(ONE),)),)),
            ("main", (("core", (release(ONE),)), ("core", (release(TWO),)))), ("main", (("core", (None,)),)),
            ("main", (("core", (release(ONE),)), ("app", (release(TWO),)))), ("main", [("core", (release(ONE),))]),
            ("main", (["core", (release(ONE),)],)), ("main", (("core", (release(ONE),), ()),)), ((), "main"),
            ("main", {"core": (release(ONE),)}),
        ])

    def test_worlds(self):
        four = tuple((label, ()) for label in "dcba")
        self.check(is_world, [RICH, TINY, four, four[:1], four[:3], (RICH[2], RICH[0])], [
            (), ("version", ()), (("main", ()), ("main", ())), (*four, ("e", ())), (*four, four[0]),
            (four[0], RICH[0], four[0]),
            [*four], ("main", ()), (("main", ()), None), (("main", ()), ["side", ()]), {"main": ()}, four[0],
            (("main", (("core", ()),)),), "store main",
        ])

    def test_changed_values(self):
        for call, thing in ((is_need, CORE), (is_release, FULL), (is_store, RICH[2]), (is_world, TINY)):
            right = 0
            for other in wrong_ones([thing]):
                self.assertIsInstance(call(other), bool)
                if call(other):
                    right += 1
                    self.assert_built_of_tuples(other)
            self.assertGreater(right, 0)

    def assert_built_of_tuples(self, thing):
        self.assertIn(type(thing), (tuple, str, int, bool, type(None)))
        if isinstance(thing, tuple):
            for item in thing:
                self.assert_built_of_tuples(item)


class ShownTest(unittest.TestCase):
    def test_names(self):
        self.assertEqual(names_of(RICH), ("app", "core", "tool"))
        self.assertEqual(names_of((("main", ()), ("side", ()))), ())
        self.assertEqual(names_of(TINY), ("core",))

    def test_shown(self):
        main, side = RICH[0][1][1][1], RICH[2][1][0][1]
        self.assertEqual(shown(RICH, "core", "all"),
                         tuple(("main", one) for one in main) + tuple(("side", one) for one in side))
        self.assertEqual(shown(RICH, "core", "first"), tuple(("main", one) for one in main))
        turned = RICH[::-1]
        self.assertEqual(shown(turned, "core", "first"), tuple(("side", one) for one in side))
        self.assertEqual([label for label, _ in shown(turned, "core", "all")], ["side"] * 2 + ["main"] * 4)
        # The first store that has such a shelf, not the first one of all.
        self.assertEqual([label for label, _ in shown(RICH, "tool", "first")], ["side", "side"])
        for sight in ("all", "first"):
            self.assertEqual(shown(RICH, "base", sight), ())
            self.assertEqual(shown(RICH, "nowhere", sight), ())

    def test_stand_ins(self):
        self.assertEqual(stand_ins(RICH, "base", "all"), (
            ("app", "main", TWO, ONE), ("app", "main", TWO, TWO), ("core", "side", THREE, THREE)))
        self.assertEqual(stand_ins(RICH, "base", "first"), (("app", "main", TWO, ONE), ("app", "main", TWO, TWO)))
        self.assertEqual(stand_ins(RICH, "tool", "all"), (("app", "main", TWO, RC), ("core", "side", THREE, ONE)))
        # A release does not stand in for its own name.
        self.assertEqual(stand_ins(RICH, "core", "all"), ())
        self.assertEqual(stand_ins(RICH, "nowhere", "all"), ())

    def test_stand_ins_ascending(self):
        one = release(TWO, stands=(("x", BETA), ("x", THREE)))
        world = (("b", (("c", (one,)), ("d", (one,)))), ("a", (("c", (release(ONE, stands=(("x", ONE),)), one)),)))
        self.assertEqual(stand_ins(world, "x", "all"), (
            ("c", "a", ONE, ONE), ("c", "a", TWO, BETA), ("c", "a", TWO, THREE), ("c", "b", TWO, BETA),
            ("c", "b", TWO, THREE), ("d", "b", TWO, BETA), ("d", "b", TWO, THREE)))

    def test_lacking(self):
        self.assertEqual(lacking(RICH), ())
        self.assertEqual(lacking((("empty", ()),)), ())
        self.assertEqual(lacking(TINY), ())
        asking = release(ONE, needs=(need("z"), need("core"), need("a")), extras=(("x", (need("b"), need("z"))),))
        standing = release(TWO, stands=(("a", ONE),), withdrawn=True)
        self.assertEqual(lacking((("main", (("app", (asking,)),)),)), ("a", "b", "core", "z"))
        self.assertEqual(lacking((("main", (("app", (asking, standing)),)),)), ("b", "core", "z"))
        # With the sight "first" the shelf of the second store would not count.
        self.assertEqual(lacking((("main", (("app", (asking,)),)), ("side", (("app", (standing,)),)))),
                         ("b", "core", "z"))
        self.assertEqual(lacking((("main", (("app", (asking,)),)), ("side", (("z", (standing,)),)))), ("b", "core"))

    def test_against_plain_words(self):
        chance = random.Random(5)
        for _ in range(150):
            world = some_world(chance)
            places = [(label, name, one) for label, shelves in world for name, found in shelves for one in found]
            self.assertEqual(names_of(world), tuple(sorted({name for _, name, _ in places})))
            for name in ("app", "base", "core", "tool"):
                everywhere = tuple((label, one) for label, other, one in places if other == name)
                self.assertEqual(shown(world, name, "all"), everywhere)
                first = [label for label, _ in everywhere][:1]
                self.assertEqual(shown(world, name, "first"), tuple(pair for pair in everywhere if [pair[0]] == first))
                for sight in ("all", "first"):
                    found = [(other, label, one[0], own) for other in names_of(world) if other != name
                             for label, one in shown(world, other, sight) for stood, own in one[4] if stood == name]
                    self.assertEqual(stand_ins(world, name, sight), tuple(sorted(found)))
            asked = {one[0] for _, _, there in places for one in there[1]}
            asked |= {one[0] for _, _, there in places for _, more in there[3] for one in more}
            self.assertEqual(lacking(world), tuple(
                name for name in sorted(asked) if not shown(world, name, "all") and not stand_ins(world, name, "all")))


class BadArgumentsTest(unittest.TestCase):
    def check_error(self, kind, thing, call, *arguments):
        with self.assertRaises(kind) as caught:
            call(*arguments)
        self.assertIs(caught.exception.thing, thing)

    def test_worlds(self):
        for thing in wrong_ones([TINY]):
            if not is_world(thing):
                for call in (names_of, lacking, world_text):
                    self.check_error(BadWorld, thing, call, thing)
                for call in (shown, stand_ins):
                    self.check_error(BadWorld, thing, call, thing, "core", "all")

    def test_words_and_sights(self):
        words = ("", "Core", "c" * 11, "co re", "core\n", "all", "first", "core", "a" * 10)
        for call in (shown, stand_ins):
            for thing in ANY_VALUES + list(words):
                if thing not in ("a", "abc", "version", "within", "same", "all", "first", "core", "a" * 10):
                    self.check_error(BadWord, thing, call, TINY, thing, "all")
                    self.check_error(BadWord, thing, call, TINY, thing, None)
                if thing not in ("all", "first"):
                    self.check_error(BadSight, thing, call, TINY, "core", thing)

    def test_the_first_error_counts(self):
        for call in (shown, stand_ins):
            self.check_error(BadWorld, None, call, None, None, None)
            self.check_error(BadWorld, (), call, (), "Core", "none")
            bad = ["core"]
            self.check_error(BadWord, bad, call, TINY, bad, "none")
            self.check_error(BadSight, bad, call, TINY, "core", bad)

    def test_needs(self):
        for thing in wrong_ones([CORE]):
            if not is_need(thing):
                self.check_error(BadNeed, thing, need_text, thing)

    def test_nothing_else_is_shown(self):
        self.assertEqual(exactly(shown(TINY, "core", "first")), exactly((("main", release(ONE)),)))


if __name__ == "__main__":
    unittest.main()
