import itertools
import random
import unittest

from tests.judges import agrees_with_all_choices, is_first_certificate
from tests.plain_asks import plain_reached, plain_right, plain_states, plain_variables
from tests.plain_demands import Demands, kind_scenes, plain_choices, product_of, small_scenes
from tests.samples import ANY_VALUES, changed, exactly, wrong_ones
from tests.test_asks import own, world_of
from tests.test_problems import right_choices
from tests.worlds import ALL, LINUX, ONE, THREE, TWO, asks_for, need, release
from versionjudge.demands import answer, problem_of
from versionjudge.errors import BadAsks, BadTargets, BadWorld, NoChoice
from versionjudge.spreads import first_spread, is_right_spread, spread_answer, spread_holds, spread_problem

LOW, HIGH = ((ONE, TWO),), ((TWO, None),)
NONE = ("none",)
ON_LINUX, ON_MAC, BARE = (("os", "linux"),), (("os", "mac"),), ()
MAC = ("is", "os", "mac")
# On linux core must be old, on mac anything goes.
WORLD = world_of(app=[release(ONE, needs=(need("core"), need("core", LOW, (), LINUX), need("tool", ALL, (), LINUX)))],
                 core=[release(ONE), release(TWO)], tool=[release(ONE)])
ASKS = asks_for(need("app"))


def at(asks, target):
    return (asks[0], target, *asks[2:])


def plain_problem(world, asks, targets):
    """What [13.2] says, with sets of states."""
    parts = [Demands(world, at(asks, target)) for target in targets]
    starts = [sum(len(part.sizes) for part in parts[:k]) for k in range(len(parts))]
    bars = [tuple((start + i, few) for i, few in bar) for start, part in zip(starts, parts) for bar in part.problem[1]]
    for one, other in itertools.combinations(range(len(parts)), 2):
        for name in plain_reached(world, at(asks, targets[one])):
            if (name, "") in parts[other].states:
                first, second = parts[one].states[name, ""], parts[other].states[name, ""]
                i, k = parts[one].variables.index((name, "")), parts[other].variables.index((name, ""))
                for s, state in enumerate(first):
                    others = tuple(t for t, held in enumerate(second) if held not in (state, NONE))
                    if state != NONE and others:
                        bars.append(((starts[one] + i, (s,)), (starts[other] + k, others)))
    return tuple(size for part in parts for size in part.sizes), tuple(bars)


def plain_right_spread(world, asks, targets, spread):
    """What [13.1] says of a tuple of choices."""
    held = []
    for target, choice in zip(targets, spread):
        if not plain_right(world, at(asks, target), choice):
            return False
        variables = plain_variables(world, at(asks, target))
        held.append({name: plain_states(world, at(asks, target), (name, option))[s]
                     for (name, option), s in zip(variables, choice) if not option})
    return all(one[name] == other[name] or NONE in (one[name], other[name])
               for one, other in itertools.combinations(held, 2) for name in set(one) & set(other))


def plain_spreads(world, asks, targets):
    return list(itertools.product(*[plain_choices(world, at(asks, target)) for target in targets]))


class SpreadsTest(unittest.TestCase):
    def check(self, world, asks, targets):
        arguments = (world, asks, targets)
        problem = spread_problem(*arguments)
        self.assertEqual(exactly(problem), exactly(plain_problem(*arguments)), arguments)
        rights = []
        for spread in plain_spreads(*arguments):
            right = plain_right_spread(*arguments, spread)
            self.assertIs(is_right_spread(*arguments, spread), right, (arguments, spread))
            rights += [spread] if right else []
        self.assertEqual(right_choices(problem), [tuple(itertools.chain(*spread)) for spread in rights])
        found = spread_answer(*arguments)
        self.assertTrue(agrees_with_all_choices(problem, found), arguments)
        self.assertIs(spread_holds(*arguments, found), True)
        if rights:
            self.assertEqual(exactly(first_spread(*arguments)), exactly(rights[0]))
        else:
            with self.assertRaises(NoChoice) as caught:
                first_spread(*arguments)
            self.assertEqual(caught.exception.certificate[0], "none")
            self.assertTrue(is_first_certificate(problem, caught.exception.certificate))
        return rights[0] if rights else None

    def test_one_target(self):
        for target in (ON_LINUX, ON_MAC, BARE):
            self.check(WORLD, ASKS, (target,))
            self.assertEqual(spread_problem(WORLD, ASKS, (target,)), problem_of(WORLD, at(ASKS, target)))
            self.assertEqual(spread_answer(WORLD, ASKS, (target,)), answer(WORLD, at(ASKS, target)))

    def test_the_target_of_the_asks_does_not_matter(self):
        for target in (ON_LINUX, ON_MAC, BARE):
            self.assertEqual(spread_problem(WORLD, at(ASKS, target), (ON_MAC, ON_LINUX)),
                             spread_problem(WORLD, ASKS, (ON_MAC, ON_LINUX)))

    def test_two_targets(self):
        # By itself mac would have the newer core.
        self.assertEqual(self.check(WORLD, ASKS, (ON_MAC,)), ((1, 1),))
        self.assertEqual(self.check(WORLD, ASKS, (ON_MAC, ON_LINUX)), ((1, 2), (1, 2, 1)))
        self.assertEqual(self.check(WORLD, ASKS, (ON_LINUX, ON_MAC)), ((1, 2, 1), (1, 2)))
        self.assertEqual(spread_problem(WORLD, ASKS, (ON_MAC, ON_LINUX)), (
            (2, 3, 2, 3, 2), (((0, (0,)),), ((0, (1,)), (1, (0,))),
                              ((2, (0,)),), ((2, (1,)), (3, (0,))), ((2, (1,)), (3, (0, 1))), ((2, (1,)), (4, (0,))),
                              ((1, (1,)), (3, (2,))), ((1, (2,)), (3, (1,))))))

    def test_three_targets(self):
        self.assertEqual(self.check(WORLD, ASKS, (ON_MAC, ON_LINUX, BARE)), ((1, 2), (1, 2, 1), (1, 2)))
        self.assertEqual(self.check(WORLD, ASKS, (ON_MAC, BARE)), ((1, 1), (1, 1)))
        # Two of the three cannot agree.
        world = world_of(app=[release(ONE, needs=(need("core", LOW, (), LINUX), need("core", HIGH, (), MAC)))],
                         core=[release(ONE), release(TWO)])
        self.assertIsNotNone(self.check(world, ASKS, (ON_MAC, BARE)))
        self.assertIsNone(self.check(world, ASKS, (BARE, ON_MAC, ON_LINUX)))
        self.assertIsNone(self.check(world, ASKS, (ON_LINUX, ON_MAC)))

    def test_a_name_that_is_reached_at_one_target_only(self):
        asks = asks_for(need("core", LOW, (), LINUX), need("tool", ALL, (), MAC))
        self.assertEqual(self.check(WORLD, asks, (ON_LINUX, ON_MAC)), ((2,), (1,)))
        self.assertEqual(self.check(WORLD, asks, (ON_LINUX, ON_MAC, BARE)), ((2,), (1,), ()))
        self.assertEqual(self.check(WORLD, asks_for(), (ON_MAC, BARE)), ((), ()))

    def test_the_order_of_the_first_of_the_two(self):
        asks = asks_for(need("tool", ALL, (), LINUX), need("core"), need("tool", ALL, (), MAC))
        world = world_of(core=[release(ONE), release(TWO)], tool=[release(ONE), release(TWO)])
        between = spread_problem(world, asks, (ON_MAC, ON_LINUX))[1][-4:]
        self.assertEqual(between, (((0, (1,)), (3, (2,))), ((0, (2,)), (3, (1,))), ((1, (1,)), (2, (2,))),
                                   ((1, (2,)), (2, (1,)))))
        between = spread_problem(world, asks, (ON_LINUX, ON_MAC))[1][-4:]
        self.assertEqual(between, (((0, (1,)), (3, (2,))), ((0, (2,)), (3, (1,))), ((1, (1,)), (2, (2,))),
                                   ((1, (2,)), (2, (1,)))))
        self.check(world, asks, (ON_MAC, ON_LINUX, BARE))

    def test_none_agrees_with_everything(self):
        # On linux something bars core, so it is none there.
        world = world_of(app=[release(ONE, needs=(need("core", ALL, (), MAC), need("not", ALL, (), LINUX)))],
                         core=[release(ONE)])
        world += (("side", (("not", (release(ONE, bars=(("core", ALL),), needs=(need("core", ALL, (), MAC),),
                                             extras=(("x", (need("core"),)),)),)),)),)
        self.assertEqual(self.check(world, ASKS, (ON_LINUX, ON_MAC)), ((1, 0, 1), (1, 1)))
        # No bar between the targets, for there is one version only.
        self.assertEqual(len(spread_problem(world, ASKS, (ON_LINUX, ON_MAC))[1]),
                         sum(len(problem_of(world, at(ASKS, target))[1]) for target in (ON_LINUX, ON_MAC)))

    def test_states_of_each_kind(self):
        world = world_of(base=[release(TWO)], core=[release(ONE, stands=(("base", THREE),)), release(TWO)],
                         app=[release(ONE, needs=(need("base"), need("core", LOW, (), LINUX)))])
        for targets in ((ON_LINUX, ON_MAC), (ON_MAC, ON_LINUX)):
            self.check(world, ASKS, targets)
        # What is kept stands before "none".
        kept = asks_for(need("app"), kept=(("base", ("main", TWO)),))
        self.assertEqual(plain_states(world, kept, ("base", ""))[:2], (own(TWO), NONE))
        self.check(world, kept, (ON_MAC, ON_LINUX))

    def test_many_scenes(self):
        chance = random.Random(131)
        kinds = [0, 0]
        between = 0
        for world, asks in [*kind_scenes(chance, 80, product=25), *small_scenes(chance, 120, product=12)]:
            targets = tuple(chance.sample([ON_LINUX, ON_MAC, BARE, (("cpu", "arm"), ("os", "linux"))],
                                          chance.randint(1, 3)))
            sizes = [len(plain_choices(world, at(asks, target))) for target in targets]
            if product_of(sizes) <= 250:
                kinds[self.check(world, asks, targets) is not None] += 1
                alone = sum(len(problem_of(world, at(asks, target))[1]) for target in targets)
                between += len(spread_problem(world, asks, targets)[1]) > alone
        self.assertGreater(min(kinds), 15)
        self.assertGreater(between, 20)


class JudgeTest(unittest.TestCase):
    BOTH = (ON_MAC, ON_LINUX)

    def test_right_spreads(self):
        right = ((1, 2), (1, 2, 1))
        self.assertIs(is_right_spread(WORLD, ASKS, self.BOTH, right), True)
        for thing in wrong_ones([right]) + [
            right[::-1], (*right, right[0]), right[:1], (), (1, 2, 1, 2, 1), [*right], ([1, 2], (1, 2, 1)),
            ((1, 1), (1, 2, 1)), ((1, 2), (1, 1, 1)), ((True, 2), (1, 2, 1)), ((1, 2), (1, 2, True)), ((1, 2), (1, 2)),
            ((1, 2), None), None,
        ]:
            self.assertIs(is_right_spread(WORLD, ASKS, self.BOTH, thing), False, thing)
        self.assertIs(is_right_spread(WORLD, asks_for(), self.BOTH, ((), ())), True)
        self.assertIs(is_right_spread(WORLD, asks_for(), (BARE,), ((),)), True)
        self.assertIs(is_right_spread(WORLD, asks_for(), (BARE,), ()), False)

    def test_certificates(self):
        for asks in (ASKS, asks_for(need("core", LOW, (), LINUX), need("core", HIGH, (), MAC)), asks_for()):
            problem = spread_problem(WORLD, asks, self.BOTH)
            for thing in changed(spread_answer(WORLD, asks, self.BOTH)) + ANY_VALUES:
                wanted = is_first_certificate(problem, thing)
                self.assertIs(spread_holds(WORLD, asks, self.BOTH, thing), wanted, thing)
        # A spread is no choice of the problem, and the certificate is about all targets.
        found = spread_answer(WORLD, ASKS, self.BOTH)
        self.assertEqual(found[1], (1, 2, 1, 2, 1))
        self.assertIs(spread_holds(WORLD, ASKS, self.BOTH, (found[0], ((1, 2), (1, 2, 1)), *found[2:])), False)
        self.assertIs(spread_holds(WORLD, ASKS, self.BOTH[::-1], found), False)
        self.assertIs(spread_holds(WORLD, ASKS, self.BOTH[:1], found), False)


class BadArgumentsTest(unittest.TestCase):
    CALLS = ((spread_problem, ()), (is_right_spread, (None,)), (spread_answer, ()), (spread_holds, (None,)),
             (first_spread, ()))

    def check_error(self, kind, thing, call, *arguments):
        with self.assertRaises(kind) as caught:
            call(*arguments)
        self.assertIs(caught.exception.thing, thing)

    def test_targets(self):
        four = (ON_LINUX, ON_MAC, BARE, (("os", "other"),))
        wrong = [(), four, [ON_LINUX], (ON_LINUX, ON_LINUX), (BARE, BARE), (ON_MAC, BARE, ON_MAC), ON_LINUX, None,
                 (None,),
                 (ON_LINUX, None), ([],), ((("os", "linux"), ("os", "mac")),), ((("OS", "linux"),),),
                 (ON_LINUX, [*ON_MAC]),
                 ((("b", "x"), ("a", "x")),), (("os", "linux"),), "linux", (ON_LINUX[0],), {BARE: BARE}]
        for call, rest in self.CALLS:
            for thing in wrong + ANY_VALUES:
                if exactly(thing) not in (exactly(((),)),):
                    self.check_error(BadTargets, thing, call, WORLD, ASKS, thing, *rest)

    def test_worlds_and_asks(self):
        for call, rest in self.CALLS:
            for thing in ANY_VALUES + [ASKS]:
                self.check_error(BadWorld, thing, call, thing, ASKS, (BARE,), *rest)
                self.check_error(BadWorld, thing, call, thing, None, None, *rest)
            for thing in ANY_VALUES + [WORLD]:
                self.check_error(BadAsks, thing, call, WORLD, thing, (BARE,), *rest)
                self.check_error(BadAsks, thing, call, WORLD, thing, None, *rest)


if __name__ == "__main__":
    unittest.main()
