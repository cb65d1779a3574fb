import random
import time
import unittest

from tests.judges import agrees_with_all_choices, is_first_certificate
from tests.plain_asks import plain_right
from tests.plain_demands import Demands, kind_scenes, plain_choices, plain_rights, small_scenes
from tests.samples import ANY_VALUES, changed, exactly
from tests.test_asks import world_of
from tests.test_problems import right_choices
from tests.worlds import ALL, BETA, LINUX, NEVER, ONE, THREE, TWO, asks_for, need, release
from versionjudge.asks import states, variables
from versionjudge.demands import answer, answer_holds, causes, chosen, problem_of
from versionjudge.errors import BadAsks, BadWorld, NoChoice
from versionjudge.problems import is_problem

LOW, HIGH = ((ONE, TWO),), ((TWO, None),)
SMALL = world_of(app=[release(ONE, needs=(need("core", LOW),)), release(TWO, needs=(need("core", HIGH),))],
                 core=[release(ONE)])
ASKS = asks_for(need("app"))
NOWHERE = asks_for(need("nowhere"))


class CausesTest(unittest.TestCase):
    def check(self, world, asks, *rows):
        """Check the given bars with their causes."""
        self.assertEqual(exactly(causes(world, asks)), exactly(tuple(cause for cause, _ in rows)))
        self.assertEqual(exactly(problem_of(world, asks)[1]), exactly(tuple(bar for _, bar in rows)))

    def test_wishes(self):
        world = world_of(app=[release(ONE), release(TWO)])
        asks = asks_for(need("app", HIGH, ("x", "y")), need("app", ALL, ("z",), NEVER), need("app", LOW))
        self.assertEqual(variables(world, asks), (("app", ""), ("app", "x"), ("app", "y")))
        self.assertEqual(problem_of(world, asks)[0], (3, 2, 2))
        # No release has the options, so the term with all states of the package is left out.
        self.check(world, asks, (("wish", 0, ""), ((0, (0, 2)),)), (("wish", 0, "x"), ((1, (0,)),)),
                   (("wish", 0, "y"), ((2, (0,)),)), (("wish", 2, ""), ((0, (0, 1)),)),
                   (("option", 1), ((1, (1,)),)), (("option", 2), ((2, (1,)),)))

    def test_a_wish_that_nothing_meets(self):
        self.assertEqual(problem_of(SMALL, NOWHERE), ((1,), ((),)))
        self.assertEqual(causes(SMALL, NOWHERE), (("wish", 0, ""),))
        self.assertEqual(problem_of(SMALL, asks_for(need("core", HIGH))), ((2,), ((),)))

    def test_nothing_to_do(self):
        for asks in (asks_for(), asks_for(need("app", condition=NEVER))):
            self.assertEqual(problem_of(SMALL, asks), ((), ()))
            self.assertEqual(causes(SMALL, asks), ())
            self.assertEqual(answer(SMALL, asks), ("choice", (), (), ()))
            self.assertEqual(chosen(SMALL, asks), ())

    def test_needs_and_bars(self):
        world = world_of(
            app=[release(ONE, needs=(need("base"), need("core", ALL, (), LINUX), need("core", LOW, ("fast", "safe"))),
                         bars=(("base", HIGH), ("core", ()), ("nowhere", ALL)))],
            base=[release(ONE), release(TWO)], core=[release(ONE), release(TWO, needs=(need("base", LOW),))])
        asks = asks_for(need("app"))
        self.assertEqual(variables(world, asks),
                         (("app", ""), ("base", ""), ("core", ""), ("core", "fast"), ("core", "safe")))
        self.check(
            world, asks, (("wish", 0, ""), ((0, (0,)),)),
            (("need", 0, 1, 0, ""), ((0, (1,)), (1, (0,)))),
            (("need", 0, 1, 2, ""), ((0, (1,)), (2, (0, 1)))), (("need", 0, 1, 2, "fast"), ((0, (1,)), (3, (0,)))),
            (("need", 0, 1, 2, "safe"), ((0, (1,)), (4, (0,)))),
            (("bar", 0, 1, 0), ((0, (1,)), (1, (1,)))),
            (("need", 2, 1, 0, ""), ((1, (0, 1)), (2, (1,)))),
            (("option", 3), ((3, (1,)),)), (("option", 4), ((4, (1,)),)))

    def test_the_terms_stand_in_the_order_of_the_variables(self):
        world = world_of(b=[release(ONE, needs=(need("a"),))], a=[release(ONE)])
        self.check(world, asks_for(need("a"), need("b")), (("wish", 0, ""), ((0, (0,)),)),
                   (("wish", 1, ""), ((1, (0,)),)), (("need", 1, 1, 0, ""), ((0, (0,)), (1, (1,)))))

    def test_two_terms_of_one_variable(self):
        # A release that needs itself: in its own version, in another one, and in none.
        world = world_of(app=[release(ONE, needs=(need("app", LOW), need("app", HIGH), need("app", ()))), release(TWO)])
        self.check(world, ASKS, (("wish", 0, ""), ((0, (0,)),)), (("need", 0, 2, 1, ""), ((0, (2,)),)),
                   (("need", 0, 2, 2, ""), ((0, (2,)),)))
        # One that bars itself, and one that bars another version.
        world = world_of(app=[release(ONE, bars=(("app", LOW),)), release(TWO, bars=(("app", LOW),))])
        self.check(world, ASKS, (("wish", 0, ""), ((0, (0,)),)), (("bar", 0, 2, 0), ((0, (2,)),)))
        # An option that needs itself, and its own package.
        world = world_of(app=[release(ONE, extras=(("x", (need("app", ALL, ("x",)), need("app", HIGH))),)),
                              release(TWO, extras=(("x", (need("app", LOW, ("y",)),)),))])
        asks = asks_for(need("app", ALL, ("x",)))
        self.assertEqual(variables(world, asks), (("app", ""), ("app", "x"), ("app", "y")))
        self.check(
            world, asks, (("wish", 0, ""), ((0, (0,)),)), (("wish", 0, "x"), ((1, (0,)),)),
            (("option", 1), ((0, (0,)), (1, (1,)))), (("extra", 1, 1, 0, ""), ((0, (1,)), (1, (1,)))),
            (("extra", 1, 1, 0, "y"), ((0, (1,)), (1, (1,)), (2, (0,)))),
            (("extra", 1, 2, 1, ""), ((0, (2,)), (1, (1,)))), (("option", 2), ((2, (1,)),)))

    def test_a_bar_with_a_term_without_states_is_left_out(self):
        world = world_of(app=[release(ONE, bars=(("core", HIGH),))], core=[release(ONE)])
        asks = asks_for(need("app"), need("core"))
        self.check(world, asks, (("wish", 0, ""), ((0, (0,)),)), (("wish", 1, ""), ((1, (0,)),)))
        # A need that each state meets cannot be, for "none" meets nothing.
        world = world_of(app=[release(ONE, needs=(need("core", ()),))], core=[release(ONE)])
        self.check(world, ASKS, (("wish", 0, ""), ((0, (0,)),)), (("need", 0, 1, 0, ""), ((0, (1,)),)))

    def test_a_kept_package_may_stand_before_none(self):
        kept = asks_for(need("app"), kept=(("app", ("main", ONE)),))
        self.assertEqual(states(SMALL, kept, 0)[1], ("none",))
        self.check(SMALL, kept, (("wish", 0, ""), ((0, (1,)),)), (("need", 0, 0, 0, ""), ((0, (0,)), (1, (0,)))),
                   (("need", 0, 2, 0, ""), ((0, (2,)),)))

    def test_stands(self):
        world = world_of(app=[release(ONE, stands=(("base", ONE), ("base", TWO))), release(TWO, needs=(need("base"),))],
                         base=[release(ONE, bars=(("app", LOW),))])
        asks = asks_for(need("base", HIGH))
        self.assertEqual(states(world, asks, 0), (("none",), ("own", "main", ONE), ("for", "app", "main", ONE, TWO),
                                                  ("for", "app", "main", ONE, ONE)))
        self.check(
            world, asks, (("wish", 0, ""), ((0, (0, 1, 3)),)),
            (("bar", 0, 1, 0), ((0, (1,)), (1, (2,)))), (("stand", 0, 2), ((0, (2,)), (1, (0, 1)))),
            (("stand", 0, 3), ((0, (3,)), (1, (0, 1)))), (("need", 1, 1, 0, ""), ((0, (0,)), (1, (1,)))))

    def test_options_and_extras(self):
        world = world_of(
            app=[release(ONE, extras=(("log", (need("core", LOW, (), LINUX), need("core", HIGH, ("fast",)))),)),
                 release(TWO, extras=(("other", (need("core"),)),)), release(THREE, extras=(("log", ()),))],
            core=[release(ONE), release(TWO, extras=(("fast", ()),))])
        asks = asks_for(need("app", ALL, ("log",)))
        self.assertEqual(variables(world, asks), (("app", ""), ("core", ""), ("app", "log"), ("core", "fast")))
        self.check(
            world, asks, (("wish", 0, ""), ((0, (0,)),)), (("wish", 0, "log"), ((2, (0,)),)),
            (("option", 2), ((0, (0, 2)), (2, (1,)))),
            (("extra", 2, 3, 1, ""), ((0, (3,)), (1, (0, 2)), (2, (1,)))),
            (("extra", 2, 3, 1, "fast"), ((0, (3,)), (2, (1,)), (3, (0,)))),
            (("option", 3), ((1, (0, 2)), (3, (1,)))))
        linux = (*asks[:1], (("os", "linux"),), *asks[2:])
        self.assertEqual(causes(world, linux)[3:5], (("extra", 2, 3, 0, ""), ("extra", 2, 3, 1, "")))

    def test_bars_that_are_equal_stay(self):
        world = world_of(app=[release(ONE, needs=(need("core"), need("core")))], core=[release(ONE)])
        self.check(world, asks_for(need("app"), need("app")), (("wish", 0, ""), ((0, (0,)),)),
                   (("wish", 1, ""), ((0, (0,)),)), (("need", 0, 1, 0, ""), ((0, (1,)), (1, (0,)))),
                   (("need", 0, 1, 1, ""), ((0, (1,)), (1, (0,)))))

    def test_only_seen_releases_ask(self):
        world = world_of(app=[release(ONE), release(BETA, needs=(need("core"),))], core=[release(ONE)])
        self.check(world, ASKS, (("wish", 0, ""), ((0, (0,)),)))
        self.assertEqual(causes(world, asks_for(need("app"), early=True))[1:], (("need", 0, 1, 0, ""),))

    def test_against_plain_words(self):
        chance = random.Random(81)
        kinds = set()
        for world, asks in [*small_scenes(chance, 250, product=5000), *kind_scenes(chance, 80)]:
            plain = Demands(world, asks)
            self.assertEqual(exactly(problem_of(world, asks)), exactly(plain.problem), (world, asks))
            self.assertEqual(exactly(causes(world, asks)), exactly(plain.causes), (world, asks))
            self.assertIs(is_problem(plain.problem), True)
            kinds |= {cause[0] for cause in plain.causes}
        self.assertEqual(kinds, {"wish", "need", "bar", "stand", "option", "extra"})


class AnswersTest(unittest.TestCase):
    def test_right_for_the_problem_exactly_if_right_in_plain_words(self):
        chance = random.Random(82)
        counts = [0, 0]
        for world, asks in [*small_scenes(chance, 150), *kind_scenes(chance, 40)]:
            rights = right_choices(problem_of(world, asks))
            for choice in plain_choices(world, asks):
                self.assertIs(plain_right(world, asks, choice), choice in rights, (world, asks, choice))
                counts[choice in rights] += 1
        self.assertGreater(min(counts), 200)

    def test_answers(self):
        chance = random.Random(83)
        kinds = []
        for world, asks in [*small_scenes(chance, 120), *kind_scenes(chance, 40)]:
            problem = problem_of(world, asks)
            found = answer(world, asks)
            self.assertTrue(agrees_with_all_choices(problem, found), (world, asks))
            self.assertIs(answer_holds(world, asks, found), True)
            rights = plain_rights(world, asks)
            if rights:
                self.assertEqual(exactly(chosen(world, asks)), exactly(rights[0]))
            else:
                with self.assertRaises(NoChoice) as caught:
                    chosen(world, asks)
                self.assertEqual(caught.exception.certificate[0], "none")
                self.assertTrue(is_first_certificate(problem, caught.exception.certificate))
            kinds.append(found[0])
        self.assertGreater(min(kinds.count("choice"), kinds.count("none")), 30)

    def test_the_judge(self):
        for asks in (ASKS, asks_for(need("app", HIGH))):
            problem = problem_of(SMALL, asks)
            for thing in changed(answer(SMALL, asks)) + ANY_VALUES:
                self.assertIs(answer_holds(SMALL, asks, thing), is_first_certificate(problem, thing), thing)
        right = ("choice", (2, 1), (("given", 0), ("given", 1), ("join", 0, 0, 1), ("given", 2)), (2, 3))
        self.assertIs(answer_holds(SMALL, ASKS, right), True)
        self.assertIs(answer_holds(SMALL, asks_for(need("app", HIGH)), right), False)
        self.assertIs(answer_holds(SMALL, ASKS, ("choice", (2, 1))), False)

    def test_limits(self):
        # Twelve names, nine of them with a release, each of which needs the next one.
        names = [f"n{letter}" for letter in "abcdefghijkl"]
        chain = {name: [release(ONE, needs=(need(after),))] for name, after in zip(names, names[1:9])}
        missing = tuple(need(name, ALL, (), LINUX) for name in names[9:])
        world = world_of(**chain, ni=[release(ONE, needs=missing)])
        for target, kind in ((), "choice"), ((("os", "linux"),), "none"):
            asks = asks_for(*[need(name) for name in names[::-1][3:]], target=target)
            begin = time.monotonic()
            found = answer(world, asks)
            self.assertEqual(found[0], kind)
            self.assertTrue(agrees_with_all_choices(problem_of(world, asks), found))
            self.assertIs(answer_holds(world, asks, found), True)
            self.assertLess(time.monotonic() - begin, 5)

    def test_bad_arguments(self):
        for call, rest in ((problem_of, ()), (causes, ()), (answer, ()), (answer_holds, (None,)), (chosen, ())):
            for thing in ANY_VALUES + [ASKS, [*SMALL], ((*SMALL[0], ()),), SMALL * 5]:
                for asks in (ASKS, None, thing):
                    with self.assertRaises(BadWorld) as caught:
                        call(thing, asks, *rest)
                    self.assertIs(caught.exception.thing, thing)
            for thing in ANY_VALUES + [SMALL, [*ASKS], asks_for(early=0), asks_for(way="first")]:
                with self.assertRaises(BadAsks) as caught:
                    call(SMALL, thing, *rest)
                self.assertIs(caught.exception.thing, thing)


if __name__ == "__main__":
    unittest.main()
