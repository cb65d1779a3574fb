import itertools
import random
import unittest

from tests.plain_asks import plain_reached, plain_right, plain_states, plain_variables
from tests.samples import ANY_VALUES, exactly, wrong_ones
from tests.worlds import (
    ALL, ALWAYS, BETA, LINUX, NEVER, ONE, RC, RICH, THREE, TWO, asks_for, need, release, some_asks, some_world,
)
from versionjudge.asks import is_asks, is_choice, is_right, reached, states, told, variables
from versionjudge.errors import BadAsks, BadChoice, BadNumber, BadWorld

NONE, OFF, ON = ("none",), ("off",), ("on",)
LOW, HIGH = ((ONE, TWO),), ((TWO, None),)


def world_of(**shelves):
    """A world with one store."""
    return (("main", tuple((name, tuple(releases)) for name, releases in sorted(shelves.items()))),)


def own(version, label="main"):
    return ("own", label, version)


def choice_of(world, asks, *wanted):
    """The choice with these states, in the order of the variables."""
    places = [states(world, asks, i) for i in range(len(variables(world, asks)))]
    assert len(places) == len(wanted)
    return tuple(few.index(state) for few, state in zip(places, wanted))


SMALL = world_of(app=[release(ONE, needs=(need("core", LOW),)), release(TWO, needs=(need("core", HIGH),))],
                 core=[release(ONE)])
ASKS = asks_for(need("app"))


class KindsTest(unittest.TestCase):
    def test_right_asks(self):
        for thing in [
            ASKS, asks_for(), asks_for(need("a"), need("a"), need("b", ())), asks_for(target=(("os", "linux"),)),
            asks_for(kept=(("a", ("main", ONE)), ("b", ("main", BETA)))),
            asks_for(way="oldest", sight="first", early=True),
        ]:
            self.assertIs(is_asks(thing), True, thing)

    def test_wrong_asks(self):
        wrong = [
            (), ((), (), ()), ((), (), (), ()), [*ASKS], (*ASKS, ()), ASKS[:3], ([], *ASKS[1:]), (None, *ASKS[1:]),
            (need("a"), *ASKS[1:]), ((need("A"),), *ASKS[1:]), (("app",), *ASKS[1:]), asks_for(("app", ALL, ())),
            asks_for(target=None), asks_for(target=[]), asks_for(target=(("os", "linux"), ("os", "mac"))),
            asks_for(target=(("os", "linux"), ("arch", "arm"))), asks_for(target=("os", "linux")),
            asks_for(kept=(("b", ("main", ONE)), ("a", ("main", ONE)))), asks_for(kept=[]), asks_for(kept=None),
            asks_for(kept=(("a", ("main", ONE)), ("a", ("side", ONE)))), asks_for(kept=(("a", "main", ONE),)),
            asks_for(kept=(("a", ("main",)),)), asks_for(kept=(("a", ("main", ONE, ONE)),)),
            asks_for(kept=(("a", ["main", ONE]),)), asks_for(kept=(("a", ("Main", ONE)),)),
            asks_for(kept=(("a", ("main", (1, 0, 0))),)), asks_for(kept=(("A", ("main", ONE)),)),
            asks_for(kept=(["a", ("main", ONE)],)), asks_for(kept=(("a", (ONE, "main")),)),
            asks_for(way="new"), asks_for(way="all"), asks_for(way=None), asks_for(way=["newest"]),
            asks_for(sight="some"), asks_for(sight="newest"), asks_for(sight=None), asks_for(sight={}),
            asks_for(early=0), asks_for(early=1),
            asks_for(early=None), asks_for(early="True"), (*ASKS[:3], ["newest", "all", False]), (*ASKS[:3], None),
            (*ASKS[:3], ("newest", "all")), (*ASKS[:3], ("newest", "all", False, False)), (*ASKS[:3], ()),
            (*ASKS[:3], ("all", "newest", False)), SMALL,
        ]
        for thing in wrong + ANY_VALUES:
            self.assertIs(is_asks(thing), False, thing)
        for thing in wrong_ones([asks_for(need("a"), target=(("a", "b"),), kept=(("a", ("b", ONE)),), early=True)]):
            self.assertIsInstance(is_asks(thing), bool)


class SeenTest(unittest.TestCase):
    def check_own(self, world, asks, *wanted):
        """Check the states "own" of the name app."""
        found = [state for state in states(world, asks, 0) if state[0] == "own"]
        self.assertEqual(found, list(wanted))

    def test_early(self):
        world = world_of(app=[release(ONE), release(BETA), release(RC)])
        self.check_own(world, asks_for(need("app")), own(ONE))
        self.check_own(world, asks_for(need("app"), early=True), own(RC), own(BETA), own(ONE))

    def test_withdrawn(self):
        world = world_of(app=[release(ONE), release(TWO, withdrawn=True)])
        self.check_own(world, asks_for(need("app")), own(ONE))
        self.check_own(world, asks_for(need("app"), early=True), own(ONE))

    def test_kept(self):
        world = world_of(app=[release(ONE), release(BETA, withdrawn=True), release(TWO, withdrawn=True), release(RC)])
        for version in (BETA, TWO, RC):
            kept = (("app", ("main", version)),)
            self.assertEqual(states(world, asks_for(need("app"), kept=kept), 0), (own(version), NONE, own(ONE)))
        # Another label, another version and another name keep nothing.
        for kept in ((("app", ("side", TWO)),), (("app", ("main", THREE)),), (("core", ("main", TWO)),)):
            self.assertEqual(states(world, asks_for(need("app"), kept=kept), 0), (NONE, own(ONE)))

    def test_sight(self):
        shelf = (("app", (release(ONE), release(TWO))),)
        world = (("a", ()), ("b", (("app", (release(BETA),)),)), ("c", shelf))
        self.check_own(world, asks_for(need("app")), own(TWO, "c"), own(ONE, "c"))
        # The first store with the shelf counts, even if nothing of it is seen.
        self.check_own(world, asks_for(need("app"), sight="first"))
        self.check_own(world, asks_for(need("app"), sight="first", early=True), own(BETA, "b"))
        kept = (("app", ("c", ONE)),)
        self.check_own(world, asks_for(need("app"), sight="first", kept=kept))
        self.check_own(world, asks_for(need("app"), kept=kept), own(ONE, "c"), own(TWO, "c"))


class ReachedTest(unittest.TestCase):
    def test_nothing(self):
        for asks in (asks_for(), asks_for(need("app", condition=NEVER)), asks_for(need("app", condition=LINUX))):
            self.assertEqual(reached(RICH, asks), ())
            self.assertEqual(variables(RICH, asks), ())
            self.assertIs(is_right(RICH, asks, ()), True)
            self.assertEqual(told(RICH, asks, ()), ((), ()))

    def test_order(self):
        world = world_of(m=[release(ONE, needs=(need("z"), need("c"), need("m")))], b=[release(ONE)])
        self.assertEqual(reached(world, asks_for(need("z"), need("m"), need("b"), need("z"), need("m"))),
                         ("z", "m", "b", "c"))
        self.assertEqual(reached(world, asks_for(need("m"), need("b"))), ("m", "b", "c", "z"))

    def test_names_without_a_shelf(self):
        self.assertEqual(reached(SMALL, asks_for(need("nowhere"))), ("nowhere",))
        self.assertEqual(states(SMALL, asks_for(need("nowhere")), 0), (NONE,))
        self.assertIs(is_right(SMALL, asks_for(need("nowhere")), (0,)), False)

    def test_only_what_is_seen_and_applies(self):
        world = world_of(
            app=[release(ONE, needs=(need("a"), need("b", condition=LINUX)), extras=(("x", (need("c"),)),)),
                 release(BETA, needs=(need("d"),)), release(TWO, needs=(need("e"),), withdrawn=True)])
        self.assertEqual(reached(world, asks_for(need("app"))), ("app", "a", "c"))
        self.assertEqual(reached(world, asks_for(need("app"), target=(("os", "linux"),))), ("app", "a", "b", "c"))
        self.assertEqual(reached(world, asks_for(need("app"), early=True)), ("app", "a", "c", "d"))
        kept = (("app", ("main", TWO)),)
        self.assertEqual(reached(world, asks_for(need("app"), kept=kept)), ("app", "a", "c", "e"))

    def test_stand_ins_reach_others(self):
        world = world_of(other=[release(ONE, needs=(need("far"),), stands=(("app", TWO),))],
                         late=[release(BETA, stands=(("app", TWO),))], gone=[release(ONE, stands=(("other", ONE),))])
        self.assertEqual(reached(world, asks_for(need("app"))), ("app", "far", "gone", "other"))
        self.assertEqual(reached(world, asks_for(need("other"))), ("other", "far", "gone"))
        self.assertEqual(reached(world, asks_for(need("app"), early=True)), ("app", "far", "gone", "late", "other"))

    def test_variables(self):
        world = world_of(
            app=[release(ONE, needs=(need("core", options=("fast",)),),
                         extras=(("log", (need("core", options=("safe",)),)), ("x", ())))],
            core=[release(ONE, extras=(("unasked", ()),)), release(BETA, needs=(need("app", options=("early",)),))])
        asks = asks_for(need("core", options=("a", "slow")), need("app", options=("never",), condition=NEVER),
                        need("app"))
        self.assertEqual(variables(world, asks), (
            ("core", ""), ("app", ""), ("core", "a"), ("core", "fast"), ("core", "safe"), ("core", "slow")))
        early = (*asks[:3], ("newest", "all", True))
        self.assertEqual(variables(world, early)[2:4], (("app", "early"), ("core", "a")))
        self.assertEqual(states(world, asks, 3), (OFF, ON))

    def test_against_plain_words(self):
        chance = random.Random(11)
        sizes = set()
        for _ in range(300):
            world = some_world(chance)
            asks = some_asks(chance, world)
            self.assertEqual(reached(world, asks), plain_reached(world, asks))
            found = variables(world, asks)
            self.assertEqual(exactly(found), exactly(plain_variables(world, asks)))
            for i, variable in enumerate(found):
                self.assertEqual(states(world, asks, i), plain_states(world, asks, variable), (world, asks, variable))
            sizes.add(len(found))
        self.assertGreater(len(sizes), 5)


class StatesTest(unittest.TestCase):
    def test_own_states(self):
        world = (("b", (("app", (release(ONE), release(TWO))),)), ("a", (("app", (release(ONE), release(THREE))),)))
        self.assertEqual(states(world, ASKS, 0), (NONE, own(THREE, "a"), own(TWO, "b"), own(ONE, "b"), own(ONE, "a")))
        oldest = asks_for(need("app"), way="oldest")
        self.assertEqual(states(world, oldest, 0), (NONE, own(ONE, "b"), own(ONE, "a"), own(TWO, "b"), own(THREE, "a")))
        kept = asks_for(need("app"), way="oldest", kept=(("app", ("a", ONE)),))
        self.assertEqual(states(world, kept, 0), (own(ONE, "a"), NONE, own(ONE, "b"), own(TWO, "b"), own(THREE, "a")))

    def test_versions_of_all_parts(self):
        versions = sorted([ONE, (1, 0, 0, 0, 0), (1, 0, 0, 0, 1), (1, 0, 0, 2, 0), (1, 0, 1, 3, 0), (1, 2, 0, 3, 0),
                           (1, 10, 0, 3, 0), (0, 9, 9, 3, 0)])
        world = world_of(app=[release(version) for version in versions])
        for way, wanted in (("oldest", versions), ("newest", versions[::-1])):
            asks = asks_for(need("app"), way=way, early=True)
            self.assertEqual(states(world, asks, 0), (NONE, *[own(version) for version in wanted]))

    def test_for_states(self):
        both = (("app", ONE), ("app", TWO))
        world = (
            ("s", (("p", (release(ONE, stands=both), release(TWO, stands=both[:1]))),
                   ("q", (release(ONE, stands=both),)))),
            ("m", (("app", (release(ONE, stands=(("app", THREE),)),)), ("p", (release(ONE, stands=both[:1]),)))),
        )
        self.assertEqual(states(world, ASKS, 0), (
            NONE, own(ONE, "m"), ("for", "p", "s", ONE, TWO), ("for", "q", "s", ONE, TWO), ("for", "p", "s", TWO, ONE),
            ("for", "p", "s", ONE, ONE), ("for", "p", "m", ONE, ONE), ("for", "q", "s", ONE, ONE)))
        self.assertEqual(states(world, asks_for(need("app"), way="oldest"), 0), (
            NONE, own(ONE, "m"), ("for", "p", "s", ONE, ONE), ("for", "p", "m", ONE, ONE), ("for", "p", "s", TWO, ONE),
            ("for", "q", "s", ONE, ONE), ("for", "p", "s", ONE, TWO), ("for", "q", "s", ONE, TWO)))
        # Another package that is kept does not come before "none".
        kept = asks_for(need("app"), kept=(("p", ("m", ONE)),))
        self.assertEqual(states(world, kept, 0), states(world, ASKS, 0))
        self.assertEqual(states(world, kept, 1)[:2], (own(ONE, "m"), NONE))

    def test_a_withdrawn_release_stands_in_only_if_it_is_kept(self):
        world = world_of(other=[release(ONE, stands=(("app", TWO),), withdrawn=True)])
        self.assertEqual(states(world, ASKS, 0), (NONE,))
        kept = asks_for(need("app"), kept=(("other", ("main", ONE)),))
        self.assertEqual(states(world, kept, 0), (NONE, ("for", "other", "main", ONE, TWO)))
        self.assertEqual(reached(world, kept), ("app", "other"))


class ChoicesTest(unittest.TestCase):
    def test_choices(self):
        right = list(itertools.product(range(3), range(2)))
        for thing in right:
            self.assertIs(is_choice(SMALL, ASKS, thing), True)
        for thing in [(3, 0), (0, 2), (-1, 0), (0, -1), (0,), (0, 0, 0), [0, 0], (True, 0), (0, False), ("0", 0),
                      (None, 0), (0, (0,)), 0, "00", {0: 0, 1: 0}] + wrong_ones(right) + ANY_VALUES:
            self.assertIs(is_choice(SMALL, ASKS, thing), False, thing)
        for thing in ANY_VALUES:
            self.assertIs(is_choice(SMALL, asks_for(), thing), exactly(thing) == exactly(()))

    def test_wishes_and_needs(self):
        choices = list(itertools.product(range(3), range(2)))
        rights = [choice for choice in choices if is_right(SMALL, ASKS, choice)]
        self.assertEqual(rights, [choice_of(SMALL, ASKS, own(ONE), own(ONE))])
        low = asks_for(need("app", LOW), need("core", HIGH))
        self.assertEqual([choice for choice in choices if is_right(SMALL, low, choice)], [])
        self.assertIs(is_right(SMALL, asks_for(need("app", HIGH)), (2, 1)), False)
        never = asks_for(need("app"), need("core", HIGH, (), NEVER))
        self.assertIs(is_right(SMALL, never, choice_of(SMALL, never, own(ONE), own(ONE))), True)

    def test_needs_at_other_targets(self):
        world = world_of(app=[release(ONE, needs=(need("core", (), (), LINUX),))])
        self.assertIs(is_right(world, ASKS, (1,)), True)
        self.assertIs(is_right(world, asks_for(need("app"), target=(("os", "linux"),)), (1, 0)), False)

    def test_bars(self):
        world = world_of(app=[release(ONE, bars=(("core", LOW), ("nowhere", ALL)))], core=[release(ONE), release(TWO)])
        asks = asks_for(need("app"), need("core"))
        self.assertIs(is_right(world, asks, choice_of(world, asks, own(ONE), own(ONE))), False)
        self.assertIs(is_right(world, asks, choice_of(world, asks, own(ONE), own(TWO))), True)
        # A bar on a name that is not reached rules nothing out.
        self.assertIs(is_right(world, ASKS, (1,)), True)
        # Without a version a name meets no range.
        both = asks_for(need("app"), need("core", condition=NEVER))
        self.assertIs(is_right(world, both, (1,)), True)
        itself = world_of(app=[release(ONE, bars=(("app", LOW),)), release(TWO, bars=(("app", LOW),))])
        self.assertEqual([is_right(itself, ASKS, (k,)) for k in range(3)], [False, True, False])

    def test_a_barred_name_may_be_none_or_stood_in_for(self):
        world = world_of(app=[release(ONE, needs=(need("mid"),), bars=(("core", LOW),))],
                         mid=[release(ONE, extras=(("x", (need("core"),)),), stands=(("core", ONE), ("core", TWO)))])
        self.assertEqual(variables(world, ASKS), (("app", ""), ("core", ""), ("mid", "")))
        stand = [("for", "mid", "main", ONE, version) for version in (ONE, TWO)]
        for state, right in ((NONE, True), (stand[0], False), (stand[1], True)):
            self.assertIs(is_right(world, ASKS, choice_of(world, ASKS, own(ONE), state, own(ONE))), right)

    def test_stand_ins(self):
        world = world_of(app=[release(ONE, stands=(("base", THREE),)), release(TWO, stands=(("base", ONE),))])
        asks = asks_for(need("base", LOW))
        first, second = ("for", "app", "main", ONE, THREE), ("for", "app", "main", TWO, ONE)
        self.assertEqual(states(world, asks, 0), (NONE, first, second))
        for state, beside, right in ((second, own(TWO), True), (second, own(ONE), False), (second, NONE, False),
                                     (first, own(ONE), False), (NONE, own(TWO), False)):
            self.assertIs(is_right(world, asks, choice_of(world, asks, state, beside)), right)

    def test_a_stand_in_in_its_own_store(self):
        one = release(ONE, stands=(("base", ONE),))
        world = (("a", (("app", (one,)),)), ("b", (("app", (one,)),)))
        asks = asks_for(need("base"))
        for label, right in (("a", True), ("b", False)):
            choice = choice_of(world, asks, ("for", "app", "a", ONE, ONE), own(ONE, label))
            self.assertIs(is_right(world, asks, choice), right)

    def test_needs_of_what_stands_in_count(self):
        world = world_of(app=[release(ONE, needs=(need("core", HIGH),), stands=(("base", ONE),))], core=[release(ONE)])
        asks = asks_for(need("base"))
        wanted = [("for", "app", "main", ONE, ONE), own(ONE), own(ONE)]
        self.assertIs(is_right(world, asks, choice_of(world, asks, *wanted)), False)

    def test_options(self):
        world = world_of(
            app=[release(ONE, extras=(("log", (need("core", HIGH), need("core", LOW, (), LINUX))),)), release(TWO)],
            core=[release(ONE), release(TWO)])
        asks = asks_for(need("app", ALL, ("log",)))
        self.assertEqual(variables(world, asks), (("app", ""), ("core", ""), ("app", "log")))
        for app, core, log, right in ((own(ONE), own(TWO), ON, True), (own(ONE), own(TWO), OFF, False),
                                      (own(ONE), own(ONE), ON, False), (own(ONE), NONE, ON, False),
                                      (own(TWO), own(TWO), ON, False), (NONE, own(TWO), ON, False)):
            self.assertIs(is_right(world, asks, choice_of(world, asks, app, core, log)), right, (app, core, log))
        # An option that nobody wishes may be on, and asks for the same as otherwise.
        free = asks_for(need("core"), need("app"), need("app", ALL, ("log",), NEVER))
        self.assertEqual(variables(world, free), (("core", ""), ("app", "")))

    def test_an_option_that_is_on_without_its_package(self):
        world = world_of(app=[release(ONE, extras=(("x", ()),), needs=(need("core"),))],
                         core=[release(ONE), release(TWO, needs=(need("app", ALL, ("x",)),))])
        asks = asks_for(need("core"))
        self.assertEqual(variables(world, asks), (("core", ""), ("app", ""), ("app", "x")))
        for core, app, option, right in ((own(ONE), NONE, OFF, True), (own(ONE), NONE, ON, False),
                                         (own(ONE), own(ONE), ON, True), (own(TWO), own(ONE), OFF, False),
                                         (own(TWO), own(ONE), ON, True), (own(TWO), NONE, ON, False)):
            self.assertIs(is_right(world, asks, choice_of(world, asks, core, app, option)), right)

    def test_an_option_needs_an_own_release(self):
        world = world_of(app=[release(ONE, extras=(("x", ()),), stands=(("base", ONE),))],
                         base=[release(ONE, extras=(("x", ()),))])
        asks = asks_for(need("base", ALL, ("x",)))
        stand = ("for", "app", "main", ONE, ONE)
        self.assertIs(is_right(world, asks, choice_of(world, asks, stand, own(ONE), ON)), False)
        self.assertIs(is_right(world, asks, choice_of(world, asks, own(ONE), own(ONE), ON)), True)

    def test_told(self):
        self.assertEqual(told(SMALL, ASKS, (0, 0)), ((), ()))
        self.assertEqual(told(SMALL, ASKS, (1, 0)), ((("app", own(TWO)),), ()))
        world = world_of(z=[release(ONE, needs=(need("a", options=("x", "y")),))],
                         b=[release(ONE, stands=(("a", TWO),))])
        asks = asks_for(need("z", options=("o",)))
        self.assertEqual(variables(world, asks), (("z", ""), ("a", ""), ("b", ""), ("a", "x"), ("a", "y"), ("z", "o")))
        stand = ("for", "b", "main", ONE, TWO)
        self.assertEqual(told(world, asks, choice_of(world, asks, own(ONE), stand, own(ONE), ON, OFF, ON)), (
            (("a", stand), ("b", own(ONE)), ("z", own(ONE))), (("a", "x"), ("z", "o"))))

    def test_against_plain_words(self):
        chance = random.Random(12)
        rights = 0
        for _ in range(250):
            world = some_world(chance)
            asks = some_asks(chance, world)
            sizes = [len(plain_states(world, asks, variable)) for variable in plain_variables(world, asks)]
            for _ in range(12):
                choice = tuple(chance.randrange(size) for size in sizes)
                self.assertIs(is_choice(world, asks, choice), True)
                right = plain_right(world, asks, choice)
                self.assertIs(is_right(world, asks, choice), right, (world, asks, choice))
                rights += right
        self.assertGreater(rights, 100)

    def test_all_choices_against_plain_words(self):
        chance = random.Random(13)
        counts = [0, 0]
        for _ in range(400):
            world = some_world(chance)
            asks = some_asks(chance, world)
            sizes = [len(plain_states(world, asks, variable)) for variable in plain_variables(world, asks)]
            choices = list(itertools.islice(itertools.product(*[range(size) for size in sizes]), 101))
            for choice in choices if len(sizes) > 1 and len(choices) <= 100 else []:
                right = is_right(world, asks, choice)
                self.assertIs(right, plain_right(world, asks, choice), (world, asks, choice))
                counts[right] += 1
        self.assertGreater(min(counts), 20)


class BadArgumentsTest(unittest.TestCase):
    CALLS = ((reached, ()), (variables, ()), (states, (0,)), (is_choice, (None,)), (is_right, ((0, 0),)),
             (told, ((0, 0),)))

    def check_error(self, kind, thing, call, *arguments):
        with self.assertRaises(kind) as caught:
            call(*arguments)
        self.assertIs(caught.exception.thing, thing)

    def test_worlds_and_asks(self):
        for call, rest in self.CALLS:
            for thing in ANY_VALUES:
                if thing != ("version", ()):
                    self.check_error(BadWorld, thing, call, thing, ASKS, *rest)
                self.check_error(BadAsks, thing, call, SMALL, thing, *rest)
            for thing in [None, SMALL, [*ASKS], ASKS[:3], asks_for(early=0), asks_for(way="first")]:
                self.check_error(BadAsks, thing, call, SMALL, thing, *rest)

    def test_the_first_error_counts(self):
        for call, rest in self.CALLS:
            bad = [None for _ in rest]
            self.check_error(BadWorld, ASKS, call, ASKS, SMALL, *bad)
            self.check_error(BadAsks, SMALL, call, SMALL, SMALL, *bad)

    def test_numbers(self):
        for thing in [2, 3, -1, -2, True, False, None, "0", (0,), [0], 10 ** 39, {}, ("app", "")] + ANY_VALUES:
            if exactly(thing) not in (exactly(0), exactly(1)):
                self.check_error(BadNumber, thing, states, SMALL, ASKS, thing)
        self.check_error(BadNumber, 0, states, SMALL, asks_for(), 0)

    def test_choices(self):
        for call in (is_right, told):
            for thing in [(3, 0), (0, 2), (-1, 0), (0,), (0, 0, 0), [0, 0], (True, 0), (0, False), None] + ANY_VALUES:
                self.check_error(BadChoice, thing, call, SMALL, ASKS, thing)
            for thing in ANY_VALUES:
                if exactly(thing) != exactly(()):
                    self.check_error(BadChoice, thing, call, SMALL, asks_for(), thing)


class LimitsTest(unittest.TestCase):
    def test_twelve_names_and_ten_states(self):
        names = [f"n{letter}" for letter in "abcdefghijkl"]
        options = tuple("abcdefgh")
        shelves = {name: [release((k, 0, 0, 3, 0), needs=(need(names[0]),)) for k in range(9)] for name in names}
        world = world_of(**shelves)
        asks = asks_for(*[need(name) for name in names[::-1]], need(names[3], options=options))
        self.assertEqual(reached(world, asks), tuple(names[::-1]))
        self.assertEqual(len(variables(world, asks)), 20)
        self.assertEqual([len(states(world, asks, i)) for i in range(20)], [10] * 12 + [2] * 8)
        self.assertIs(is_choice(world, asks, (9,) * 12 + (1,) * 8), True)
        self.assertIs(is_right(world, asks, (1,) * 20), False)
        self.assertEqual(told(world, asks, (0,) * 11 + (9,) + (0,) * 7 + (1,)), (
            ((names[0], own((0, 0, 0, 3, 0))),), ((names[3], "h"),)))


class ConditionsTest(unittest.TestCase):
    def test_conditions_count_at_the_target_of_the_asks(self):
        for target, wanted in (((), ("app",)), ((("os", "linux"),), ("app", "core")), ((("os", "mac"),), ("app",))):
            asks = asks_for(need("app", condition=ALWAYS), need("core", condition=LINUX), target=target)
            self.assertEqual(reached(SMALL, asks), ("app", "core"))
            self.assertEqual(reached(world_of(), asks), wanted)


if __name__ == "__main__":
    unittest.main()
