import itertools
import random
import unittest

from tests.plain_asks import plain_right
from tests.plain_demands import Demands, kind_scenes, plain_choices, plain_rights
from tests.samples import ANY_VALUES, changed, exactly, wrong_ones
from tests.test_asks import choice_of, own, world_of
from tests.test_problems import met
from tests.worlds import ALL, ONE, THREE, TWO, asks_for, need, release
from versionjudge.errors import BadAsks, BadChoice, BadWord, BadWorld, NotRight
from versionjudge.plans import ahead, binds, is_plan, judge_plan, lots, moved, plan_holds, standing

LOW, HIGH = ((ONE, TWO),), ((TWO, None),)
NONE = ("none",)


def linked(*links, names="abcd", back=()):
    """A world in which for each link "ab" the version TWO of a needs TWO of b, and for each back ONE needs ONE."""
    shelves = {}
    for name in names:
        up = tuple(need(link[1], HIGH) for link in links if link[0] == name)
        down = tuple(need(link[1], LOW) for link in back if link[0] == name)
        shelves[name] = [release(ONE, needs=down), release(TWO, needs=up)]
    return world_of(**shelves), asks_for(*[need(name) for name in names])


# Both releases of app need core at their own version, so neither can be moved first.
BOTH = linked("ab", names="ab", back=("ab",))
OLD, NEW = (2, 2), (1, 1)


def plain_moved(demands, one, other):
    return tuple(sorted({name for (name, _), s, t in zip(demands.variables, one, other) if s != t}))


def plain_standing(demands, one, other, names):
    return tuple(t if name in names else s for (name, _), s, t in zip(demands.variables, one, other))


def subsets(names):
    return [set(few) for many in range(len(names) + 1) for few in itertools.combinations(names, many)]


def plain_binds(demands, one, other):
    names = plain_moved(demands, one, other)
    found = []
    for a, b in itertools.permutations(names, 2):
        standings = [plain_standing(demands, one, other, few) for few in subsets(names) if a in few and b not in few]
        for j, bar in enumerate(demands.problem[1]):
            owners = {demands.variables[i][0] for i, _ in bar}
            if owners <= {a, b} and all(met(choice, bar) for choice in standings):
                found.append((a, b, j))
    return tuple(sorted(found))


def orders(names):
    """All ways to split names into ordered groups."""
    if not names:
        yield ()
    for many in range(1, len(names) + 1):
        for first in itertools.combinations(names, many):
            for rest in orders(tuple(name for name in names if name not in first)):
                yield (first, *rest)


def plain_plans(world, asks, one, other):
    """All plans, by going through all ordered groups of moved names."""
    demands = Demands(world, asks)
    names = plain_moved(demands, one, other)
    right = {frozenset(few): plain_right(world, asks, plain_standing(demands, one, other, few))
             for few in subsets(names)}
    return [plan for plan in orders(names)
            if all(right[frozenset(itertools.chain(*plan[:k]))] for k in range(len(plan) + 1))]


def is_plan_certificate(triples, plans, thing):
    """What [12.2] says."""
    if type(thing) is not tuple or len(thing) != 3 or exactly(thing[0]) != exactly("plan"):
        return False
    _, plan, rings = thing
    if exactly(plan) not in [exactly(one) for one in plans] or type(rings) is not tuple or len(rings) != len(plan):
        return False
    for lot, ring in zip(plan, rings):
        if type(ring) is not tuple or (len(lot) == 1) != (ring == ()):
            return False
        if not all(exactly(triple) in [exactly(one) for one in triples] for triple in ring):
            return False
        if ring and ({a for a, _, _ in ring} != set(lot) or any(
                before[1] != after[0] for before, after in zip(ring, ring[1:] + ring[:1]))):
            return False
    return True


class PlansTest(unittest.TestCase):
    def check(self, world, asks, one, other):
        arguments = (world, asks, one, other)
        demands = Demands(world, asks)
        names = plain_moved(demands, one, other)
        self.assertEqual(exactly(moved(*arguments)), exactly(names))
        self.check_standings(demands, arguments, names)
        triples = plain_binds(demands, one, other)
        self.assertEqual(exactly(binds(*arguments)), exactly(triples))
        if len(names) > 4:
            return None
        plans = plain_plans(world, asks, one, other)
        for thing in orders(names):
            self.assertIs(is_plan(*arguments, thing), thing in plans, (arguments, thing))
        most = max(len(plan) for plan in plans)
        best = [plan for plan in plans if len(plan) == most]
        self.assertEqual({tuple(sorted(plan)) for plan in best}, {lots(*arguments)})
        first = [(a, b) for a, b in itertools.permutations(names, 2)
                 if all(self.position(plan, a) < self.position(plan, b) for plan in best)]
        self.assertEqual(exactly(ahead(*arguments)), exactly(tuple(sorted(first))))
        self.check_certificate(arguments, triples, plans, best)
        return most

    def position(self, plan, name):
        return [name in lot for lot in plan].index(True)

    def check_standings(self, demands, arguments, names):
        for few in subsets(names):
            wanted = plain_standing(demands, *arguments[2:], few)
            self.assertEqual(exactly(standing(*arguments, tuple(sorted(few)))), exactly(wanted))
        self.assertEqual(standing(*arguments, ()), arguments[2])
        self.assertEqual(standing(*arguments, names), arguments[3])

    def check_certificate(self, arguments, triples, plans, best):
        found = judge_plan(*arguments)
        self.assertTrue(is_plan_certificate(triples, plans, found), (arguments, found))
        self.assertIn(found[1], best)
        for lot, ring in zip(*found[1:]):
            self.assertLessEqual(len(ring), len(lot) * (len(lot) - 1))
        for plan in best[:6]:
            # All plans with the most tuples have the same ones, so the rings may go with each of them.
            rings = tuple(found[2][found[1].index(lot)] for lot in plan)
            self.assertIs(plan_holds(*arguments, ("plan", plan, rings)), True)
            self.assertIs(plan_holds(*arguments, ("plan", plan, rings[::-1])), rings == rings[::-1] or
                          is_plan_certificate(triples, plans, ("plan", plan, rings[::-1])))
        for plan in plans[:8]:
            thing = ("plan", plan, tuple(() for _ in plan))
            self.assertIs(plan_holds(*arguments, thing), is_plan_certificate(triples, plans, thing))
            self.assertIs(plan_holds(*arguments, ("plan", plan, found[2])),
                          is_plan_certificate(triples, plans, ("plan", plan, found[2])))

    def test_nothing_is_moved(self):
        for world, asks in (BOTH, linked("ab")):
            for one in plain_rights(world, asks)[:3]:
                self.assertEqual(self.check(world, asks, one, one), 0)
                self.assertEqual(judge_plan(world, asks, one, one), ("plan", (), ()))
                self.assertIs(is_plan(world, asks, one, one, ()), True)
                self.assertIs(is_plan(world, asks, one, one, ((),)), False)
                self.assertIs(is_plan(world, asks, one, one, (("a",),)), False)
                self.assertIs(plan_holds(world, asks, one, one, ("plan", ((),), ((),))), False)
        self.assertEqual(judge_plan(BOTH[0], asks_for(), (), ()), ("plan", (), ()))

    def test_two_names(self):
        self.assertEqual(self.check(*BOTH, OLD, NEW), 1)
        self.assertEqual(binds(*BOTH, OLD, NEW), (("a", "b", 2), ("b", "a", 3)))
        self.assertEqual(judge_plan(*BOTH, OLD, NEW)[2], ((("a", "b", 2), ("b", "a", 3)),))
        free = linked(names="ab")
        self.assertEqual(self.check(*free, OLD, NEW), 2)
        self.assertEqual((binds(*free, OLD, NEW), ahead(*free, OLD, NEW)), ((), ()))
        way = linked("ab", names="ab")
        self.assertEqual(self.check(*way, OLD, NEW), 2)
        self.assertEqual((ahead(*way, OLD, NEW), lots(*way, OLD, NEW)), ((("b", "a"),), (("a",), ("b",))))
        self.assertEqual(judge_plan(*way, OLD, NEW), ("plan", (("b",), ("a",)), ((), ())))
        # On the way back it is the other way round.
        self.assertEqual(self.check(*way, NEW, OLD), 2)
        self.assertEqual(ahead(*way, NEW, OLD), (("a", "b"),))

    def test_three_and_four_names(self):
        for links, most, order in (
            (("ab", "bc", "ca"), 1, ""), (("ab", "bc"), 3, "cb ba ca"), (("ab", "ba", "bc"), 2, "ca cb"),
            (("ca", "ab", "ba"), 2, "ac bc"), ((), 3, ""), (("ab", "cb"), 3, "ba bc"), (("ab", "ac"), 3, "ba ca"),
        ):
            scene = linked(*links, names="abc")
            self.assertEqual(self.check(*scene, (2, 2, 2), (1, 1, 1)), most, links)
            self.assertEqual(ahead(*scene, (2, 2, 2), (1, 1, 1)), tuple(sorted(map(tuple, order.split()))), links)
        for links, most in ((("ab", "bc", "cd", "da"), 1), (("ab", "bc", "cd"), 4), (("ab", "ba", "cd", "dc"), 2),
                            (("ab", "ba", "cd", "dc", "ac"), 2), (("ab", "bc", "ca", "ad"), 2), (("ad", "bd", "cd"), 4),
                            (("ab", "ba", "bc", "cb", "cd", "dc"), 1), (("ac", "cb", "ba", "bd", "da"), 1)):
            self.assertEqual(self.check(*linked(*links), (2,) * 4, (1,) * 4), most, links)

    def test_rings_through_one_name(self):
        # From b to c and back one must go through a, so the ring has more triples than names.
        star = linked("ab", "ba", "ac", "ca", "ad", "da")
        self.assertEqual(self.check(*star, (2,) * 4, (1,) * 4), 1)
        ring = judge_plan(*star, (2,) * 4, (1,) * 4)[2][0]
        self.assertLessEqual(len(ring), 12)
        self.assertGreaterEqual(len(ring), 6)

    def test_all_links_between_three_names(self):
        pairs = ["".join(pair) for pair in itertools.permutations("abc", 2)]
        for links in subsets(pairs):
            self.check(*linked(*sorted(links), names="abc"), (2,) * 3, (1,) * 3)

    def test_many_links_between_four_names(self):
        chance = random.Random(121)
        pairs = ["".join(pair) for pair in itertools.permutations("abcd", 2)]
        counts = set()
        for _ in range(40):
            scene = linked(*chance.sample(pairs, chance.randint(0, 7)), back=chance.sample(pairs, chance.randint(0, 2)))
            counts.add(self.check(*scene, (2,) * 4, (1,) * 4))
        self.assertEqual(counts, {1, 2, 3, 4})

    def test_long_rings(self):
        names = "abcdefghi"
        ring = [a + b for a, b in zip(names, names[1:] + names[:1])]
        world, asks = linked(*ring, names=names)
        # Sizes of 3 ** 9 are beyond the limits, but nothing is searched here.
        one, other = (2,) * 9, (1,) * 9
        found = judge_plan(world, asks, one, other)
        self.assertEqual(found[1], (tuple(names),))
        self.assertLessEqual(len(found[2][0]), 72)
        self.assertIs(plan_holds(world, asks, one, other, found), True)
        self.assertEqual(lots(world, asks, one, other), (tuple(names),))
        chain = linked(*ring[:-1], names=names)
        self.assertEqual(judge_plan(*chain, one, other), ("plan", tuple((name,) for name in names[::-1]), ((),) * 9))
        self.assertEqual(len(ahead(*chain, one, other)), 36)

    def test_options_and_stand_ins(self):
        world = world_of(
            app=[release(ONE), release(TWO, needs=(need("core", ALL, ("fast",)), need("base", HIGH)))],
            core=[release(ONE, extras=(("fast", ()),)), release(TWO, stands=(("base", THREE),))], base=[release(ONE)])
        asks = asks_for(need("app"), need("core"))
        self.assertEqual(len(plain_choices(world, asks)), 54)
        rights = plain_rights(world, asks)
        for one, other in itertools.product(rights, rights):
            self.check(world, asks, one, other)
        # An option alone is enough for a name to be moved.
        plain, fast = [choice_of(world, asks, own(ONE), own(ONE), NONE, (word,)) for word in ("off", "on")]
        self.assertEqual(moved(world, asks, plain, fast), ("core",))
        self.assertEqual(standing(world, asks, plain, fast, ("core",)), fast)

    def test_many_scenes(self):
        chance = random.Random(122)
        counts = []
        for world, asks in kind_scenes(chance, 60):
            rights = plain_rights(world, asks)
            for _ in range(2):
                counts.append(self.check(world, asks, chance.choice(rights), chance.choice(rights)))
        self.assertGreater(min(counts.count(1), counts.count(2)), 10)


class JudgeTest(unittest.TestCase):
    def test_wrong_plans(self):
        way = linked("ab", names="ab")
        for thing, right in (
            ((("b",), ("a",)), True), ((("a", "b"),), True), ((("a",), ("b",)), False), ((("b", "a"),), False),
            ((("b",),), False), ((("b",), ("a",), ()), False), (((), ("b",), ("a",)), False),
            ((("b",), ("b",), ("a",)), False),
            ((("b",), ("a", "b")), False), ([("b",), ("a",)], False), ((["b"], ["a"]), False), (("b", "a"), False),
            ((("b",), ("a",), ("c",)), False), ((("b",), ("a", "c")), False), ((), False), ("ba", False), (None, False),
            ((("b", 1), ("a",)), False), ((("b",), (None,)), False), ((("a", "a", "b"),), False),
            ((("b", ""), ("a",)), False),
        ):
            self.assertIs(is_plan(*way, OLD, NEW, thing), right, thing)
        for thing in ANY_VALUES + wrong_ones([(("b",), ("a",)), (("a", "b"),)]):
            self.assertIs(is_plan(*way, OLD, NEW, thing), False, thing)

    def test_wrong_rings(self):
        first, second = ("a", "b", 2), ("b", "a", 3)
        plan = (("a", "b"),)
        for ring, right in (
            ((first, second), True), ((second, first), True), ((first, second) * 3, True), ((first,), False),
            ((), False),
            ((first, first), False), ((second, second), False), ((first, second, first), False),
            ([first, second], False),
            ((list(first), second), False), ((("a", "b", 3), second), False), ((first, ("b", "a", 2)), False),
            ((("a", "b", 0), second), False), ((("a", "a", 2), second), False), ((first, second, second), False),
            ((("a", "b"), second), False), (((*first, 0), second), False), ((first, None), False), (None, False),
            ((("a", "b", 99), second), False), ((("a", "b", -2), second), False),
        ):
            self.assertIs(plan_holds(*BOTH, OLD, NEW, ("plan", plan, (ring,))), right, ring)
        rings = ((first, second),)
        for thing in (("plan", plan), ("plan", plan, rings, ()), ["plan", plan, rings], ("Plan", plan, rings),
                      ("plan", [*plan], rings), ("plan", plan, [*rings]), ("plan", plan, ()), ("plan", plan, rings * 2),
                      ("plan", (("a",), ("b",)), ((), ())), ("plan", (("b",), ("a",)), ((), ())), ("plan", (), ())):
            self.assertIs(plan_holds(*BOTH, OLD, NEW, thing), False, thing)
        # A ring of one name, and a tuple that could be split.
        way = linked("ab", names="ab")
        for rings in ((((),), ()), ((), ((),)), (None, ()), ((("a", "b", 2),), ()), ([], ())):
            self.assertIs(plan_holds(*way, OLD, NEW, ("plan", (("b",), ("a",)), rings)), False, rings)
        for ring in ((), (("a", "b", 2),), (("a", "b", 2), ("b", "a", 2))):
            self.assertIs(plan_holds(*way, OLD, NEW, ("plan", (("a", "b"),), (ring,))), False, ring)

    def test_a_ring_needs_every_name(self):
        scene = linked("ab", "ba", "bc", "cb", names="abc")
        one, other = (2,) * 3, (1,) * 3
        triples = {triple[:2]: triple for triple in binds(*scene, one, other)}
        plan = (("a", "b", "c"),)
        for path, right in (("abcba", True), ("bcbab", True), ("aba", False), ("bcb", False), ("abcb", False),
                            ("abab", False),
                            ("ababcba", True)):
            ring = tuple(triples[pair] for pair in zip(path, path[1:]) if pair in triples)
            self.assertIs(plan_holds(*scene, one, other, ("plan", plan, (ring,))), right, path)

    def test_changed_certificates(self):
        scene = linked("ab", "ba", "ac", names="abc")
        one, other = (2,) * 3, (1,) * 3
        triples = plain_binds(Demands(*scene), one, other)
        plans = plain_plans(*scene, one, other)
        taken = [0, 0]
        for thing in changed(judge_plan(*scene, one, other)) + ANY_VALUES:
            wanted = is_plan_certificate(triples, plans, thing)
            self.assertIs(plan_holds(*scene, one, other, thing), wanted, thing)
            taken[wanted] += 1
        self.assertGreater(taken[0], 300)

    def test_bools_are_no_positions(self):
        # Here the bar of the need stands at the position 1.
        world = world_of(app=[release(ONE, needs=(need("core", LOW),)), release(TWO, needs=(need("core", HIGH),))],
                         core=[release(ONE), release(TWO)])
        arguments = (world, asks_for(need("app")), OLD, NEW)
        self.assertEqual(binds(*arguments), (("app", "core", 1), ("core", "app", 2)))
        for j, right in ((1, True), (True, False)):
            ring = (("app", "core", j), ("core", "app", 2))
            self.assertIs(plan_holds(*arguments, ("plan", (("app", "core"),), (ring,))), right)


class BadArgumentsTest(unittest.TestCase):
    CALLS = ((moved, ()), (standing, ((),)), (is_plan, (((),),)), (binds, ()), (judge_plan, ()), (plan_holds, (None,)),
             (lots, ()), (ahead, ()))

    def check_error(self, kind, thing, call, *arguments):
        with self.assertRaises(kind) as caught:
            call(*arguments)
        self.assertIs(caught.exception.thing, thing)

    def test_worlds_and_asks(self):
        world, asks = BOTH
        for call, rest in self.CALLS:
            for thing in ANY_VALUES + [asks]:
                self.check_error(BadWorld, thing, call, thing, asks, OLD, NEW, *rest)
                self.check_error(BadWorld, thing, call, thing, None, None, None, *rest)
            for thing in ANY_VALUES + [world]:
                self.check_error(BadAsks, thing, call, world, thing, OLD, NEW, *rest)
                self.check_error(BadAsks, thing, call, world, thing, None, None, *rest)

    def test_choices_then_right_ones(self):
        wrong = (0, 0)
        for call, rest in self.CALLS:
            for thing in ANY_VALUES + [(3, 0), (0, 3), (True, 1), [1, 1], (1,), (1, 1, 1), (-1, 1), (1, False)]:
                self.check_error(BadChoice, thing, call, *BOTH, thing, NEW, *rest)
                self.check_error(BadChoice, thing, call, *BOTH, thing, None, *rest)
                self.check_error(BadChoice, thing, call, *BOTH, thing, wrong, *rest)
                self.check_error(BadChoice, thing, call, *BOTH, OLD, thing, *rest)
                # What is no choice counts before what is not right.
                self.check_error(BadChoice, thing, call, *BOTH, wrong, thing, *rest)
            other = (1, 2)
            self.check_error(NotRight, wrong, call, *BOTH, wrong, NEW, *rest)
            self.check_error(NotRight, wrong, call, *BOTH, OLD, wrong, *rest)
            self.check_error(NotRight, wrong, call, *BOTH, wrong, other, *rest)
            self.check_error(NotRight, other, call, *BOTH, other, wrong, *rest)

    def test_names(self):
        scene = linked(names="abc")
        one, other, wrong = (2, 2, 2), (1, 1, 2), (0, 0, 0)
        self.assertEqual(moved(*scene, one, other), ("a", "b"))
        for names in ((), ("a",), ("b",), ("a", "b")):
            self.assertIsInstance(standing(*scene, one, other, names), tuple)
        for thing in ANY_VALUES + [("b", "a"), ("a", "a"), ("c",), ("a", "c"), ["a"], "a", "ab", ("a", 1), (("a",),),
                                   ("", "a"),
                                   ("a", "b", "c"), ("A",), {"a": 1}]:
            if exactly(thing) != exactly(()):
                self.check_error(BadWord, thing, standing, *scene, one, other, thing)
                self.check_error(BadChoice, None, standing, *scene, one, None, thing)
                self.check_error(NotRight, wrong, standing, *scene, one, wrong, thing)


if __name__ == "__main__":
    unittest.main()
