import itertools
import random
import unittest

from tests.judges import is_bar_certificate, is_clash_certificate, is_fair
from tests.plain_asks import applies, plain_reached, plain_states
from tests.plain_demands import Demands, kind_scenes, plain_choices, plain_rights, small_scenes
from tests.samples import ANY_VALUES, changed, exactly, wrong_ones
from tests.test_asks import choice_of, own, world_of
from tests.worlds import ALL, LINUX, NEVER, ONE, TWO, asks_for, need, release
from versionjudge.errors import BadAsks, BadNumber, BadWorld, NoChoice
from versionjudge.questions import (
    clash_holds, judge_clash, judge_state, names_in, names_out, state_holds, sure,
)

LOW, HIGH = ((ONE, TWO),), ((TWO, None),)
SMALL = world_of(app=[release(ONE, needs=(need("core", LOW),)), release(TWO, needs=(need("core", HIGH),))],
                 core=[release(ONE)])
ASKS, WRONG = asks_for(need("app")), asks_for(need("app", HIGH))
NONE = ("none",)


def applying_wishes(asks):
    return [k for k, wish in enumerate(asks[0]) if applies(asks, wish)]


class StateTest(unittest.TestCase):
    def check(self, world, asks, rights, i, s):
        problem = Demands(world, asks).problem
        bar = ((i, (s,)),) if problem[0][i] > 1 else ()
        found = judge_state(world, asks, i, s)
        self.assertTrue(is_bar_certificate(problem, bar, found), (world, asks, i, s))
        self.assertIs(state_holds(world, asks, i, s, found), True)
        self.assertEqual(found[0], "choice" if any(right[i] == s for right in rights) else "lines")
        return found[0]

    def test_all_states(self):
        chance = random.Random(91)
        kinds = []
        for world, asks in [*small_scenes(chance, 60), *kind_scenes(chance, 30)]:
            rights = plain_rights(world, asks)
            for i, size in enumerate(Demands(world, asks).sizes):
                kinds += [self.check(world, asks, rights, i, s) for s in range(size)]
        self.assertGreater(min(kinds.count("choice"), kinds.count("lines")), 100)

    def test_one_state(self):
        world = world_of(app=[release(ONE, extras=(("x", (need("nowhere"),)),))])
        self.assertEqual(judge_state(world, ASKS, 1, 0), ("choice", (1, 0)))
        self.assertIs(state_holds(world, ASKS, 1, 0, ("choice", (1, 0))), True)
        nothing = asks_for(need("nowhere"))
        self.assertEqual(judge_state(world, nothing, 0, 0), ("lines", (("given", 0),)))
        self.assertIs(state_holds(world, nothing, 0, 0, ("lines", (("given", 0),))), True)
        self.assertIs(state_holds(world, nothing, 0, 0, ("lines", ())), False)
        self.assertIs(state_holds(world, nothing, 0, 0, ("choice", (0,))), False)

    def test_the_judge(self):
        for i, s in ((0, 0), (0, 1), (0, 2), (1, 0), (1, 1)):
            problem, bar = Demands(SMALL, ASKS).problem, ((i, (s,)),)
            for thing in changed(judge_state(SMALL, ASKS, i, s)) + ANY_VALUES:
                self.assertIs(state_holds(SMALL, ASKS, i, s, thing), is_bar_certificate(problem, bar, thing), thing)
        self.assertIs(state_holds(SMALL, ASKS, 1, 1, ("choice", (2, 1))), True)
        # A right choice with another state, and a certificate of the whole problem.
        self.assertIs(state_holds(SMALL, ASKS, 0, 1, ("choice", (2, 1))), False)
        self.assertIs(state_holds(SMALL, ASKS, 1, 1, ("choice", (2, 1), (), (None, None))), False)

    def test_numbers(self):
        wrong = [-1, True, False, None, "0", (0,), 10 ** 39]
        for call, rest in ((judge_state, ()), (state_holds, (None,))):
            for thing in wrong + [2, 3] + [value for value in ANY_VALUES if exactly(value) not in
                                           (exactly(0), exactly(1))]:
                for s in (0, None, thing):
                    with self.assertRaises(BadNumber) as caught:
                        call(SMALL, ASKS, thing, s, *rest)
                    self.assertIs(caught.exception.thing, thing)
            for i, size in ((0, 3), (1, 2)):
                for thing in wrong + [size, size + 1]:
                    with self.assertRaises(BadNumber) as caught:
                        call(SMALL, ASKS, i, thing, *rest)
                    self.assertIs(caught.exception.thing, thing)


class ClashTest(unittest.TestCase):
    def check(self, world, asks):
        demands = Demands(world, asks)
        found = judge_clash(world, asks)
        self.assertTrue(is_clash_certificate(demands, applying_wishes(asks), found), (world, asks, found))
        self.assertIs(clash_holds(world, asks, found), True)
        self.assertEqual(found[0], "right" if plain_rights(world, asks) else "clash")
        return found

    def test_right(self):
        self.assertEqual(self.check(SMALL, ASKS), ("right", (2, 1)))
        self.assertEqual(self.check(SMALL, asks_for()), ("right", ()))
        # All right choices are certificates, not only the first one.
        free = asks_for(need("core"), need("app", condition=NEVER))
        world = world_of(core=[release(ONE), release(TWO)])
        for choice, right in (((0,), False), ((1,), True), ((2,), True), ((3,), False), ((True,), False)):
            self.assertIs(clash_holds(world, free, ("right", choice)), right)

    def test_one_wish(self):
        for asks, positions in ((WRONG, (0,)), (asks_for(need("nowhere")), (0,)),
                                (asks_for(need("core"), need("app", HIGH)), (1,)),
                                (asks_for(need("core", HIGH, (), NEVER), need("app", ())), (1,)),
                                (asks_for(need("core", ALL, ("x",))), (0,))):
            self.assertEqual(self.check(SMALL, asks)[1], positions)

    def test_several_wishes(self):
        world = world_of(a=[release(ONE, bars=(("b", LOW),)), release(TWO)], b=[release(ONE), release(TWO)],
                         c=[release(ONE, bars=(("b", HIGH),))])
        two = asks_for(need("a", LOW), need("b", LOW))
        self.assertEqual(self.check(world, two)[1], (0, 1))
        three = asks_for(need("a", LOW), need("a"), need("b"), need("c"), need("b", HIGH, (), LINUX))
        self.assertEqual(self.check(world, three)[1], (0, 2, 3))
        # Two clashes, of which either one may be told.
        both = asks_for(need("a", LOW), need("b", LOW), need("a", HIGH))
        self.assertIn(self.check(world, both)[1], ((0, 1), (0, 2)))
        lines = judge_clash(world, both)[2]
        for positions in ((0, 1), (0, 2), (0, 1, 2), (1, 2), (0,), ()):
            thing = ("clash", positions, lines, ((0, 0, 0),) * len(positions))
            wanted = is_clash_certificate(Demands(world, both), [0, 1, 2], thing)
            self.assertIs(clash_holds(world, both, thing), wanted)

    def test_what_is_not_a_clash(self):
        world = world_of(a=[release(ONE, bars=(("b", LOW),))], b=[release(ONE)])
        asks = asks_for(need("a"), need("b"), need("b", LOW, (), NEVER), need("a", HIGH, (), LINUX))
        kind, positions, lines, choices = self.check(world, asks)
        self.assertEqual((kind, positions, len(choices)), ("clash", (0, 1), 2))
        first, second = choices
        none, only_b, only_a, both = [choice_of(world, asks, a, b) for a in (NONE, own(ONE)) for b in (NONE, own(ONE))]
        for thing, right in (
            (("clash", (0, 1), lines, (only_a, only_b)), False), (("clash", (0, 1), lines, (only_b, only_a)), True),
            (("clash", (0, 1), lines, (none, only_a)), False), (("clash", (0, 1), lines, (only_b, none)), False),
            (("clash", (0, 1), lines, (only_b, both)), False), (("clash", (0, 1), lines, (only_b,)), False),
            (("clash", (0, 1), lines, (only_b, only_a, none)), False),
            (("clash", (1, 0), lines, (only_a, only_b)), False),
            (("clash", (0, 0), lines, (only_b, only_b)), False), (("clash", (0,), lines, (only_b,)), False),
            (("clash", (1,), lines, (only_a,)), False), (("clash", (0, 2), lines, (only_b, only_a)), False),
            (("clash", (0, 1, 2), lines, (only_b, only_a, none)), False), (("clash", (), lines, ()), False),
            (("clash", (0, True), lines, (only_b, only_a)), False), (("clash", [0, 1], lines, (only_b, only_a)), False),
            (("clash", (0, 1), [*lines], (only_b, only_a)), False), (("clash", (0, 1), lines, [only_b, only_a]), False),
            (("clash", (0, 1), lines[:-1], (only_b, only_a)), False), (("clash", (0, 1), (), (only_b, only_a)), False),
            (["clash", (0, 1), lines, (only_b, only_a)], False), (("clash", (0, 1), lines), False),
            (("none", (0, 1), lines, (only_b, only_a)), False), (("clash", (0, 4), lines, (only_b, only_a)), False),
            (("clash", (-2, 1), lines, (only_b, only_a)), False), (("right", both), False), (("right", only_a), False),
            (("clash", (0, 1), lines, (first, second)), True),
            (("clash", (0, 1), lines, (only_b, list(only_a))), False),
            (("clash", (0, 1), lines, (only_b, tuple(map(bool, only_a)))), False),
        ):
            self.assertIs(clash_holds(world, asks, thing), right, thing)

    def test_lines_that_use_another_wish(self):
        # The bars of the wishes 0 and 1 are equal, but the lines may use those at the positions only.
        asks = asks_for(need("app", HIGH), need("app", HIGH))
        certificate = self.check(SMALL, asks)
        _, (k,), lines, choices = certificate
        for other in (0, 1):
            moved = tuple(("given", other) if line == ("given", k) else line for line in lines)
            self.assertIs(clash_holds(SMALL, asks, ("clash", (k,), moved, choices)), other == k)
            self.assertIs(clash_holds(SMALL, asks, ("clash", (other,), moved, choices)), True)
            # Also a line that nothing depends on counts.
            more = (("given", other), *[("join", line[1], line[2] + 1, line[3] + 1) if line[0] == "join" else line
                                        for line in lines])
            self.assertIs(clash_holds(SMALL, asks, ("clash", (k,), more, choices)), other == k)
        self.assertIs(clash_holds(SMALL, asks, ("clash", (0, 1), lines, choices * 2)), False)

    def test_many_scenes(self):
        chance = random.Random(92)
        found = []
        for world, asks in small_scenes(chance, 100, product=120):
            found.append(self.check(world, asks)[:2])
        for world, asks in kind_scenes(chance, 80):
            # More wishes for what is reached, each of which could be met by itself.
            names = plain_reached(world, asks)
            more = tuple(need(chance.choice(names), chance.choice((LOW, HIGH))) for _ in range(3))
            found.append(self.check(world, (asks[0] + more, *asks[1:]))[:2])
        many = [len(positions) for kind, positions in found if kind == "clash"]
        self.assertGreater(min(many.count(1), many.count(2), len(found) - len(many)), 5)

    def test_clashes_are_the_least_in_plain_words(self):
        chance = random.Random(93)
        clashes = 0
        for world, asks in small_scenes(chance, 60):
            kind, positions = judge_clash(world, asks)[:2]
            if kind == "clash":
                clashes += 1
                demands = Demands(world, asks)
                choices = plain_choices(world, asks)
                for many in range(len(positions) + 1):
                    for few in itertools.combinations(positions, many):
                        fair = any(is_fair(demands, few, choice) for choice in choices)
                        self.assertIs(fair, many < len(positions), (world, asks, few))
        self.assertGreater(clashes, 10)

    def test_changed_certificates(self):
        for asks in (ASKS, WRONG, asks_for(need("core"), need("app", HIGH)), asks_for()):
            demands, applying = Demands(SMALL, asks), applying_wishes(asks)
            for thing in changed(judge_clash(SMALL, asks)) + ANY_VALUES:
                wanted = is_clash_certificate(demands, applying, thing)
                self.assertIs(clash_holds(SMALL, asks, thing), wanted, thing)

    def test_the_stated_one_and_no_other(self):
        right = ("clash", (0,), (("given", 0), ("given", 1), ("join", 0, 0, 1)), ((0, 0),))
        self.assertIs(clash_holds(SMALL, WRONG, right), True)
        for thing in wrong_ones([right]):
            wanted = is_clash_certificate(Demands(SMALL, WRONG), [0], thing)
            self.assertIs(clash_holds(SMALL, WRONG, thing), wanted, thing)


class SureTest(unittest.TestCase):
    def test_ordinary(self):
        self.assertEqual(sure(SMALL, ASKS), (("app", own(ONE)), ("core", own(ONE))))
        self.assertEqual((names_in(SMALL, ASKS), names_out(SMALL, ASKS)), (("app", "core"), ()))
        free = asks_for(need("core", HIGH, (), NEVER), need("app", ALL, (), NEVER))
        self.assertEqual((sure(SMALL, free), names_in(SMALL, free), names_out(SMALL, free)), ((), (), ()))

    def test_names_are_ascending_though_wishes_are_not(self):
        world = world_of(z=[release(ONE), release(TWO)], b=[release(ONE)], a=[release(ONE)],
                         c=[release(ONE, bars=(("z", ALL),), needs=(need("d"),))], d=[release(ONE)])
        asks = asks_for(need("z"), need("b"), need("a"), need("c", condition=LINUX))
        self.assertEqual(sure(world, asks), (("a", own(ONE)), ("b", own(ONE))))
        self.assertEqual(names_in(world, asks), ("a", "b", "z"))
        more = world_of(z=[release(ONE, extras=(("x", (need("c"),)),))], c=world[0][1][2][1], d=[release(ONE)])
        asks = asks_for(need("z"))
        self.assertEqual(names_out(more, asks), ("c",))
        self.assertEqual(sure(more, asks), (("c", NONE), ("z", own(ONE))))
        self.assertEqual(names_in(more, asks), ("z",))

    def test_one_state(self):
        world = world_of(app=[release(ONE, extras=(("x", (need("nowhere"),)),))])
        self.assertEqual(sure(world, ASKS), (("app", own(ONE)), ("nowhere", NONE)))
        self.assertEqual(names_out(world, ASKS), ("nowhere",))

    def test_against_plain_words(self):
        chance = random.Random(94)
        lengths = [set(), set(), set()]
        for world, asks in kind_scenes(chance, 80):
            rights = plain_rights(world, asks)
            had = {}
            for i, name in enumerate(plain_reached(world, asks)):
                few = plain_states(world, asks, (name, ""))
                had[name] = {few[right[i]] for right in rights}
            wanted = (
                tuple(sorted((name, min(some)) for name, some in had.items() if len(some) == 1)),
                tuple(sorted(name for name, some in had.items() if NONE not in some)),
                tuple(sorted(name for name, some in had.items() if some == {NONE})),
            )
            found = (sure(world, asks), names_in(world, asks), names_out(world, asks))
            self.assertEqual(exactly(found), exactly(wanted), (world, asks))
            for some, rows in zip(lengths, found):
                some.add(len(rows))
        self.assertGreater(min(len(some) for some in lengths), 2)

    def test_nothing_is_right(self):
        for call in (sure, names_in, names_out):
            for asks in (WRONG, asks_for(need("nowhere"))):
                with self.assertRaises(NoChoice) as caught:
                    call(SMALL, asks)
                certificate = caught.exception.certificate
                self.assertEqual((type(certificate), certificate[0], len(certificate)), (tuple, "none", 2))
                problem = Demands(SMALL, asks).problem
                self.assertTrue(is_bar_certificate(problem, (), ("lines", certificate[1])))


class BadArgumentsTest(unittest.TestCase):
    def test_worlds_and_asks(self):
        for call, rest in ((judge_state, (0, 0)), (state_holds, (0, 0, None)), (judge_clash, ()),
                           (clash_holds, (None,)), (sure, ()), (names_in, ()), (names_out, ())):
            bad = [None for _ in rest]
            for thing in ANY_VALUES + [ASKS, [*SMALL]]:
                for asks, more in ((ASKS, rest), (None, bad)):
                    with self.assertRaises(BadWorld) as caught:
                        call(thing, asks, *more)
                    self.assertIs(caught.exception.thing, thing)
            for thing in ANY_VALUES + [SMALL, [*ASKS]]:
                for more in (rest, bad):
                    with self.assertRaises(BadAsks) as caught:
                        call(SMALL, thing, *more)
                    self.assertIs(caught.exception.thing, thing)


if __name__ == "__main__":
    unittest.main()
