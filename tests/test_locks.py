import itertools
import random
import unittest

from tests.judges import is_right_thing, is_whole
from tests.plain_asks import applies
from tests.plain_demands import Demands, kind_scenes, plain_choices, plain_rights, small_scenes
from tests.samples import ANY_VALUES, changed, exactly, wrong_ones
from tests.test_asks import choice_of as numbers_of
from tests.test_asks import own, world_of
from tests.test_problems import met
from tests.worlds import ALL, BETA, LINUX, ONE, THREE, TWO, asks_for, need, release
from versionjudge.asks import is_asks, is_right
from versionjudge.demands import chosen
from versionjudge.errors import BadAsks, BadChoice, BadLock, BadText, BadWorld, NotRight
from versionjudge.locks import (
    changes, choice_of, is_lock, judge_lock, lock_holds, lock_of, lock_text, read_lock, with_kept,
)

LOW, HIGH = ((ONE, TWO),), ((TWO, None),)
STAND = ("for", "core", "main", ONE, TWO)
# The same releases as in the document, with an option and a stand-in.
WORLD = world_of(app=[release(TWO, needs=(need("core"), need("base", ALL)), extras=(("log", ()), ("x", ())))],
                 core=[release(ONE, stands=(("base", TWO),)), release(TWO)], base=[release(ONE)])
ASKS = asks_for(need("app", ALL, ("log",)), need("app", ALL, ("x",), ("not", LINUX)))
ENTRIES = (("app", own(TWO), ("log", "x")), ("base", STAND, ()), ("core", own(ONE), ()))
LOCK = ((), ENTRIES)
RICH = ((("arch", "arm"), ("os", "linux")), (("app", own(BETA, "for"), ()), ("base", STAND, ("a", "b")),
                                            ("zoo", own(ONE, "forth"), ("fast",))))
RICH_TEXT = ("target arch=arm,os=linux\napp for 2.0.0-beta.4\nbase for core main 1.0.0 as 2.0.0 [a,b]\n"
             "zoo forth 1.0.0 [fast]")


def plain_described(demands, lock):
    """The choice that a lock describes, None if there is none."""
    held = {variable: ("off",) if variable[1] else ("none",) for variable in demands.variables}
    for name, state, options in lock[1]:
        if (name, "") not in held or state not in demands.states[name, ""]:
            return None
        held[name, ""] = state
        for option in options:
            if (name, option) not in held:
                return None
            held[name, option] = ("on",)
    return tuple(demands.states[variable].index(held[variable]) for variable in demands.variables)


def is_lock_certificate(demands, lock, thing):
    """What [11.2] says."""
    if type(thing) is not tuple or not thing or type(thing[0]) is not str:
        return False
    if (thing[0], len(thing)) == ("target", 1):
        return demands.asks[1] != lock[0]
    if len(thing) != 2:
        return False
    if thing[0] == "entry":
        alone = [plain_described(demands, (lock[0], (entry,))) is None for entry in lock[1]]
        return is_whole(thing[1], len(lock[1])) and alone[thing[1]]
    choice = plain_described(demands, lock)
    if thing[0] == "bar":
        bars = demands.problem[1]
        return choice is not None and is_whole(thing[1], len(bars)) and met(choice, bars[thing[1]])
    if thing[0] != "kept" or choice is None or demands.asks[1] != lock[0]:
        return False
    return is_right_thing(demands.problem, thing[1]) and thing[1] == choice


class KindsTest(unittest.TestCase):
    def test_right_locks(self):
        for thing in [((), ()), LOCK, RICH, (RICH[0], ()), ((), ENTRIES[1:]),
                      ((), (("a", own(ONE), tuple("abcdefgh")),)),
                      ((), (("core", ("for", "core", "main", ONE, ONE), ()),))]:
            self.assertIs(is_lock(thing), True, thing)

    def test_wrong_locks(self):
        entry = ENTRIES[0]
        for thing in [
            (), ((),), ((), (), ()), [(), ()], ((), [*ENTRIES]), ([], ENTRIES), (None, ENTRIES), ((), None), ENTRIES,
            ((("os", "linux"), ("arch", "arm")), ()), ((("os", "linux"),) * 2, ()), ((), ENTRIES[::-1]),
            ((), (entry, entry)), ((), (entry, ("app", own(ONE), ()))), ((), (entry[:2],)), ((), ((*entry, ()),)),
            ((), ([*entry],)), ((), (("App", own(ONE), ()),)), ((), (("", own(ONE), ()),)),
            ((), (("app", ("none",), ()),)),
            ((), (("app", ("own", "main"), ()),)), ((), (("app", ("own", "main", ONE, ONE), ()),)),
            ((), (("app", ("own", "Main", ONE), ()),)), ((), (("app", ("own", "main", (1, 0, 0)), ()),)),
            ((), (("app", ["own", "main", ONE], ()),)), ((), (("app", ("for", "main", ONE), ()),)),
            ((), (("app", ("own", "core", "main", ONE, TWO), ()),)), ((), (("app", ("for", "core", ONE, TWO), ()),)),
            ((), (("app", ("for", "core", "main", ONE), ()),)),
            ((), (("app", ("for", "core", "main", ONE, ONE, ONE), ()),)),
            ((), (("app", "own", ()),)), ((), (("app", None, ()),)), ((), (("app", (), ()),)),
            ((), (("app", ("for", "core", "main", ONE, None), ()),)),
            ((), (("app", ("for", "", "main", ONE, ONE), ()),)),
            ((), (("app", ("for", "core", "main", "1.0.0", ONE), ()),)), ((), (("app", ("on",), ()),)),
            ((), (("app", own(ONE), ("b", "a")),)), ((), (("app", own(ONE), ("a", "a")),)),
            ((), (("app", own(ONE), ["a"]),)),
            ((), (("app", own(ONE), ("A",)),)), ((), (("app", own(ONE), None),)), ((), (("app", own(ONE), "a"),)),
            ((), (("app", own((1, 0, 0, True, 0)), ()),)), ((), (("app", ("own", ONE, "main"), ()),)),
        ]:
            self.assertIs(is_lock(thing), False, thing)
        for thing in ANY_VALUES:
            self.assertIs(is_lock(thing), exactly(thing) == exactly(((), ())), thing)


class LockOfTest(unittest.TestCase):
    def test_the_lock_of_a_choice(self):
        choice = numbers_of(WORLD, ASKS, own(TWO), STAND, own(ONE), ("on",), ("on",))
        self.assertEqual(exactly(lock_of(WORLD, ASKS, choice)), exactly(LOCK))
        self.assertEqual(choice_of(WORLD, ASKS, LOCK), choice)
        self.assertEqual(lock_of(WORLD, asks_for(), ()), ((), ()))
        linux = (*ASKS[:1], (("os", "linux"),), *ASKS[2:])
        choice = numbers_of(WORLD, linux, own(TWO), own(ONE), own(TWO), ("on",))
        self.assertEqual(lock_of(WORLD, linux, choice), (
            (("os", "linux"),), (("app", own(TWO), ("log",)), ("base", own(ONE), ()), ("core", own(TWO), ()))))

    def test_there_and_back(self):
        chance = random.Random(111)
        many = 0
        for world, asks in [*kind_scenes(chance, 40), *small_scenes(chance, 100)]:
            demands = Demands(world, asks)
            for choice in plain_rights(world, asks)[:10]:
                lock = lock_of(world, asks, choice)
                held = {variable: demands.states[variable][s] for variable, s in zip(demands.variables, choice)}
                entries = [(name, state, tuple(sorted(other for owner, other in held if owner == name and other and
                                                      held[owner, other] == ("on",))))
                           for (name, option), state in held.items() if not option and state != ("none",)]
                self.assertEqual(exactly(lock), exactly((asks[1], tuple(sorted(entries)))))
                self.assertIs(is_lock(lock), True)
                self.assertEqual(exactly(choice_of(world, asks, lock)), exactly(choice))
                self.assertEqual(exactly(judge_lock(world, asks, lock)), exactly(("kept", choice)))
                self.assertEqual(exactly(read_lock(lock_text(lock))), exactly(lock))
                many += 1
        self.assertGreater(many, 200)

    def test_choices_that_are_not_right(self):
        wrong = [(0, 0, 0, 0), (0,) * 6, (9, 0, 0, 0, 0), [0] * 5, (True, 0, 0, 0, 0), (0, 0, 0, 0, -1),
                 (0, 0, 0, 0, None)]
        for thing in ANY_VALUES + wrong:
            with self.assertRaises(BadChoice) as caught:
                lock_of(WORLD, ASKS, thing)
            self.assertIs(caught.exception.thing, thing)
        rights = plain_rights(WORLD, ASKS)
        for choice in plain_choices(WORLD, ASKS):
            if choice not in rights:
                with self.assertRaises(NotRight) as caught:
                    lock_of(WORLD, ASKS, choice)
                self.assertIs(caught.exception.thing, choice)


class JudgeTest(unittest.TestCase):
    def check(self, world, asks, lock, *kinds):
        demands = Demands(world, asks)
        found = judge_lock(world, asks, lock)
        self.assertTrue(is_lock_certificate(demands, lock, found), (world, asks, lock, found))
        self.assertIs(lock_holds(world, asks, lock, found), True)
        self.assertEqual(exactly(choice_of(world, asks, lock)), exactly(plain_described(demands, lock)))
        if kinds:
            self.assertIn(found[0], kinds)
        self.check_all(demands, lock)
        return found

    def check_all(self, demands, lock):
        """Check that each certificate of the four kinds is taken exactly if it is right."""
        found = []
        things = [("target",), *[("entry", at) for at in range(-1, len(lock[1]) + 1)],
                  *[("bar", j) for j in range(-1, len(demands.causes) + 1)]]
        choices = itertools.product(*[range(size) for size in demands.sizes])
        things += [("kept", choice) for choice in itertools.islice(choices, 200)]
        things.append(("kept", plain_described(demands, lock)))
        for thing in things:
            wanted = is_lock_certificate(demands, lock, thing)
            self.assertIs(lock_holds(demands.world, demands.asks, lock, thing), wanted, (lock, thing))
            if wanted:
                found.append(thing[0])
        self.assertTrue(set(found) == {"kept"} or (found and "kept" not in found), found)

    def test_each_kind(self):
        self.check(WORLD, ASKS, LOCK, "kept")
        self.check(WORLD, ASKS, ((("os", "linux"),), ENTRIES), "target")
        # A name that is not reached, a state that is not there, an option that is no variable.
        for wrong in (("tool", own(ONE), ()), ("core", own(THREE), ()), ("core", own(ONE, "side"), ()),
                      ("core", ("for", "core", "main", ONE, ONE), ()), ("core", own(ONE), ("fast",))):
            entries = (*ENTRIES[:2], wrong)
            self.assertEqual(self.check(WORLD, ASKS, ((), entries)), ("entry", 2))
            self.assertIsNone(choice_of(WORLD, ASKS, ((), entries)))
            self.assertIs(lock_holds(WORLD, ASKS, ((), entries), ("entry", 1)), False)
            self.assertIs(lock_holds(WORLD, ASKS, ((), entries), ("bar", 0)), False)
            # With another target both certificates are right.
            other = ((("os", "mac"),), entries)
            self.check(WORLD, ASKS, other, "target", "entry")
            self.assertIs(lock_holds(WORLD, ASKS, other, ("target",)), True)
            self.assertIs(lock_holds(WORLD, ASKS, other, ("entry", 2)), True)
        for entries in ((), ENTRIES[:2], ENTRIES[1:], (("app", own(TWO), ()), *ENTRIES[1:]),
                        (*ENTRIES[:2], ("core", own(TWO), ()))):
            self.check(WORLD, ASKS, ((), entries), "bar")
            self.check(WORLD, ASKS, ((("os", "mac"),), entries), "target", "bar")
        self.assertIs(lock_holds(WORLD, ASKS, ((("os", "mac"),), ()), ("bar", 0)), True)

    def test_nothing(self):
        self.assertEqual(self.check(WORLD, asks_for(), ((), ())), ("kept", ()))
        self.assertEqual(self.check(WORLD, asks_for(), ((("a", "b"),), ())), ("target",))

    def test_many_locks(self):
        chance = random.Random(112)
        kinds = []
        for world, asks in [*kind_scenes(chance, 40, product=100), *small_scenes(chance, 60)]:
            rights = plain_rights(world, asks)
            if rights:
                target, entries = lock_of(world, asks, chance.choice(rights))
                locks = [(target, entries), ((("zz", "z"),), entries)]
                for at, (name, state, options) in enumerate(entries):
                    locks.append((target, entries[:at] + entries[at + 1:]))
                    locks.append((target, (*entries[:at], (name, own(TWO), options), *entries[at + 1:])))
                    locks.append((target, (*entries[:at], (name, state, ()), *entries[at + 1:])))
                    locks.append((target, (*entries[:at], (name, state, ("fast",)), *entries[at + 1:])))
                kinds += [self.check(world, asks, lock)[0] for lock in locks]
        self.assertGreater(min(kinds.count(kind) for kind in ("kept", "target", "entry", "bar")), 10)

    def test_changed_certificates(self):
        for lock in (LOCK, ((("os", "mac"),), ENTRIES), ((), ENTRIES[:1]), ((), (("tool", own(ONE), ()),))):
            demands = Demands(WORLD, ASKS)
            for thing in changed(judge_lock(WORLD, ASKS, lock)) + ANY_VALUES:
                self.assertIs(lock_holds(WORLD, ASKS, lock, thing), is_lock_certificate(demands, lock, thing), thing)
        self.assertIs(lock_holds(WORLD, ASKS, LOCK, ("kept", (1, 2, 2, True, True))), False)


class KeptTest(unittest.TestCase):
    def test_with_kept(self):
        kept = (("app", ("main", TWO)), ("core", ("main", ONE)))
        self.assertEqual(with_kept(ASKS, LOCK), (ASKS[0], (), kept, ASKS[3]))
        # What was kept before is not kept any more, and the target of the lock does not matter.
        before = asks_for(need("app"), target=(("a", "b"),), kept=(("tool", ("main", ONE)),), way="oldest", early=True)
        self.assertEqual(with_kept(before, ((("os", "mac"),), ENTRIES)), (*before[:2], kept, before[3]))
        self.assertEqual(with_kept(before, ((), ())), (*before[:2], (), before[3]))
        self.assertIs(is_asks(with_kept(ASKS, RICH)), True)

    def newer(self, chance, world):
        """A world with more releases on its shelves, and some of the others withdrawn."""
        stores = []
        for label, shelves in world:
            more = []
            for name, releases in shelves:
                found = [(*one[:5], True) if chance.random() < 0.3 else one for one in releases]
                for version in ((1, 5, 0, 3, 0), (9, 0, 0, 3, 0)):
                    needs = [need(chance.choice(["app", "base", "core", "tool", "new"]))]
                    needs = needs if chance.random() < 0.3 else []
                    found.append(release(version, tuple(needs), extras=(("fast", ()),)))
                more.append((name, tuple(sorted(found))))
            stores.append((label, tuple(more)))
        return tuple(stores)

    def least_options(self, demands, held):
        """The smallest set of options that [11.3] names, for the state of each package."""
        asked = [wish for wish in demands.asks[0] if applies(demands.asks, wish)]
        on = set()
        for name, state in held.items():
            if state != ("none",):
                asked += [wanted for wanted in demands.release(name, state)[1] if applies(demands.asks, wanted)]
        while True:
            more = {(wanted[0], option) for wanted in asked for option in wanted[2]}
            if more <= on:
                return on
            for name, option in more - on:
                for wanted in dict(demands.release(name, held[name])[3])[option]:
                    asked += [wanted] if applies(demands.asks, wanted) else []
            on |= more

    def test_what_is_right_is_kept(self):
        chance = random.Random(113)
        kept, options = 0, 0
        scenes = [*kind_scenes(chance, 120), *small_scenes(chance, 150)]
        for world, asks in scenes:
            for choice in plain_rights(world, asks)[:4]:
                lock = lock_of(world, asks, choice)
                later = self.newer(chance, world)
                now = with_kept(asks, lock)
                demands = Demands(later, now)
                if any(entry[1][0] == "for" for entry in lock[1]) or len(plain_choices(later, now)) > 3000:
                    continue
                if judge_lock(later, now, lock)[0] == "kept":
                    first = chosen(later, now)
                    held = {variable: demands.states[variable][s] for variable, s in zip(demands.variables, first)}
                    packages = {name: state for (name, option), state in held.items() if not option}
                    before = {name: state for name, state, _ in lock[1]}
                    self.assertEqual({name: state for name, state in packages.items() if state != ("none",)}, before)
                    on = {variable for variable, state in held.items() if state == ("on",)}
                    self.assertEqual(on, self.least_options(demands, packages))
                    kept += 1
                    options += bool(on)
        self.assertGreater(kept, 100)
        self.assertGreater(options, 5)

    def test_without_a_lock_newer_ones_are_taken(self):
        old = world_of(app=[release(ONE)])
        new = world_of(app=[release(ONE, withdrawn=True), release(TWO)])
        asks = asks_for(need("app"))
        lock = lock_of(old, asks, chosen(old, asks))
        self.assertEqual(lock_of(new, asks, chosen(new, asks))[1], (("app", own(TWO), ()),))
        now = with_kept(asks, lock)
        self.assertEqual(lock_of(new, now, chosen(new, now)), lock)
        # A choice may have more options than it needs; they are not kept.
        world = world_of(app=[release(ONE, extras=(("x", (need("app", ALL, ("x",)),)),))])
        wide = ((), (("app", own(ONE), ("x",)),))
        self.assertEqual(judge_lock(world, asks, wide), ("kept", (1, 1)))
        self.assertEqual(chosen(world, with_kept(asks, wide)), (0, 0))


class TextsTest(unittest.TestCase):
    def check(self, at, text):
        with self.assertRaises(BadText) as caught:
            read_lock(text)
        self.assertEqual(exactly(caught.exception.at), exactly(at), text)

    def test_there_and_back(self):
        self.assertEqual(lock_text(RICH), RICH_TEXT)
        self.assertEqual(exactly(read_lock(RICH_TEXT)), exactly(RICH))
        self.assertEqual(lock_text(((), ())), "target")
        self.assertEqual(read_lock("target"), ((), ()))
        self.assertEqual(lock_text(((("a", "b"),), ())), "target a=b")
        self.assertEqual(lock_text(LOCK), "target\napp main 2.0.0 [log,x]\nbase for core main 1.0.0 as 2.0.0\n"
                                          "core main 1.0.0")
        self.assertEqual(read_lock(lock_text(LOCK)), LOCK)

    def test_names_and_labels_that_look_like_words_of_the_text(self):
        states = [own(ONE, "for"), own(ONE, "as"), own(ONE, "target"), ("for", "for", "for", ONE, TWO),
                  ("for", "as", "as", ONE, TWO), ("for", "own", "for", BETA, BETA)]
        for name, state, options in itertools.product(("for", "as", "target"), states, ((), ("as", "for"))):
            lock = ((("for", "as"),), ((name, state, options),))
            self.assertEqual(exactly(read_lock(lock_text(lock))), exactly(lock))

    def test_what_is_no_string(self):
        for thing in ANY_VALUES:
            if not isinstance(thing, str):
                self.check(-1, thing)

    def test_wrong_texts(self):
        self.check(1, "")
        for thing in ANY_VALUES:
            if isinstance(thing, str):
                self.check(1, thing)
        for line in ("targets", "target ", "target a", "target a=", "target a=b,", "target a=b,a=c", "target b=b,a=c",
                     " target", "Target", "target  a=b", "target a=b ", "app main 1.0.0", "\n",
                     "target a=b,zzzzzzzzzz=b,",
                     "target A=b", "target a=abcdefghijk"):
            self.check(1, line)
            self.check(1, line + "\napp main 1.0.0")
        for line in (
            "", " ", "app", "app ", "app main", "app main ", "app main 1", "app main 1.0", "app main 1.0.",
            "app main 1.0.0 ",
            "app main 1.0.0 [", "app main 1.0.0 []", "app main 1.0.0 [a", "app main 1.0.0 [a,", "app main 1.0.0 [a,]",
            "app main 1.0.0 [b,a]", "app main 1.0.0 [a,a]", "app main 1.0.0 [a] ", "app main 1.0.0[a]",
            "app main 1.0.0 a",
            "app main 1.0.0 [A]", "app main 01.0.0", "App main 1.0.0", "app Main 1.0.0", "app main  1.0.0", "app none",
            "app for", "app for ", "app for core", "app for core main", "app for core main 1.0.0", "app for core 1.0.0",
            "app for core main 1.0.0 ", "app for core main 1.0.0 as", "app for core main 1.0.0 as ",
            "app fort core main",
            "app for core main 1.0.0 as 2.0", "app for core main 1.0.0 as 2.0.0 ", "app for core main 1.0.0 is 2.0.0",
            "app for core main 1.0.0 as 2.0.0 [b,a]", "app for 1.0.0 as 2.0.0", "app main 1.0.0 as 2.0.0", "target",
            "app on core main 1.0.0 as 2.0.0", "abcdefghijk main 1.0.0", "app abcdefghijk 1.0.0", "app main 1.0.0-b",
        ):
            self.check(2, "target\n" + line)
            self.check(2, "target\n" + line + "\nzoo main 1.0.0")
            self.check(3, "target\nab main 1.0.0\n" + line)
        self.check(3, "target\napp main 1.0.0\napp main 2.0.0")
        self.check(3, "target\napp main 1.0.0\naa main 2.0.0\nx")
        self.check(3, "target\napp main 1.0.0\n")
        self.check(3, "target\nzzzzzzzzzz main 1.0.0\nzzzzzzzzzz main 2.0.0")
        self.check(2, "target\n")

    def test_spoiled_texts(self):
        lines = RICH_TEXT.split("\n")
        for at, line in enumerate(lines):
            for k in range(len(line) + 1):
                for letter in ("", " ", "A", "[", "\n"):
                    text = "\n".join([*lines[:at], line[:k] + letter + line[k + 1:], *lines[at + 1:]])
                    try:
                        lock = read_lock(text)
                    except BadText as error:
                        self.assertIn(error.at, range(at + 1, at + 3), text)
                    else:
                        self.assertEqual(lock_text(lock), text)


class ChangesTest(unittest.TestCase):
    def test_changes(self):
        one = ((), (("a", own(ONE), ()), ("b", own(ONE), ("x",)), ("c", own(ONE), ()), ("d", STAND, ())))
        other = ((("k", "v"),), (("b", own(ONE), ()), ("c", own(ONE), ()), ("d", own(ONE), ()),
                                 ("e", own(TWO), ("y",))))
        self.assertEqual(changes(one, other), (
            ("a", (own(ONE), ()), None), ("b", (own(ONE), ("x",)), (own(ONE), ())), ("d", (STAND, ()), (own(ONE), ())),
            ("e", None, (own(TWO), ("y",)))))
        self.assertEqual(changes(other, one),
                         tuple((name, after, before) for name, before, after in changes(one, other)))
        for lock in (one, other, ((), ())):
            self.assertEqual(changes(lock, lock), ())
        # Only the entries count.
        self.assertEqual(changes(((), one[1]), ((("k", "v"),), one[1])), ())
        self.assertEqual(changes(((), ()), one), tuple((name, None, tuple(rest)) for name, *rest in one[1]))


class BadArgumentsTest(unittest.TestCase):
    def check_error(self, kind, thing, call, *arguments):
        with self.assertRaises(kind) as caught:
            call(*arguments)
        self.assertIs(caught.exception.thing, thing)

    def test_worlds_and_asks(self):
        for call, rest in ((lock_of, ((0,) * 5,)), (choice_of, (LOCK,)), (judge_lock, (LOCK,)),
                           (lock_holds, (LOCK, None))):
            bad = [None for _ in rest]
            for thing in ANY_VALUES + [ASKS, LOCK]:
                self.check_error(BadWorld, thing, call, thing, ASKS, *rest)
                self.check_error(BadWorld, thing, call, thing, None, *bad)
            for thing in ANY_VALUES + [WORLD, LOCK]:
                self.check_error(BadAsks, thing, call, WORLD, thing, *rest)
                self.check_error(BadAsks, thing, call, WORLD, thing, *bad)
        for thing in ANY_VALUES + [WORLD, LOCK]:
            self.check_error(BadAsks, thing, with_kept, thing, LOCK)
            self.check_error(BadAsks, thing, with_kept, thing, None)

    def test_locks(self):
        for thing in ANY_VALUES + wrong_ones([LOCK])[:60] + [[*LOCK], ((), ENTRIES[::-1]), ENTRIES, ((), [*ENTRIES])]:
            if not is_lock(thing):
                for call, rest in ((choice_of, ()), (judge_lock, ()), (lock_holds, (None,)),
                                   (lock_holds, (("target",),))):
                    self.check_error(BadLock, thing, call, WORLD, ASKS, thing, *rest)
                self.check_error(BadLock, thing, with_kept, ASKS, thing)
                self.check_error(BadLock, thing, lock_text, thing)
                self.check_error(BadLock, thing, changes, thing, LOCK)
                self.check_error(BadLock, thing, changes, thing, None)
                self.check_error(BadLock, thing, changes, LOCK, thing)

    def test_a_right_choice_of_another_target(self):
        linux = (*ASKS[:1], (("os", "linux"),), *ASKS[2:])
        choice = numbers_of(WORLD, linux, own(TWO), own(ONE), own(TWO), ("on",))
        self.assertIs(is_right(WORLD, linux, choice), True)
        self.check_error(BadChoice, choice, lock_of, WORLD, ASKS, choice)


if __name__ == "__main__":
    unittest.main()
