import copy
import inspect
import random
import unittest

from tests.judges import is_first_certificate
from tests.plain_demands import Demands
from tests.samples import ANY_VALUES, exactly, wrong_ones
from tests.test_asks import own, world_of
from tests.test_locks import is_lock_certificate
from tests.worlds import ALL, BETA, FIRST, LINUX, NEVER, ONE, RC, RICH, THREE, TWO, asks_for, need, release
from versionjudge import desks
from versionjudge.asks import is_asks
from versionjudge.demands import answer_holds, chosen
from versionjudge.desks import Desk, read_desk
from versionjudge.errors import (
    BadAsks, BadDeed, BadText, BadWorld, NoChoice, NothingToRedo, NothingToUndo,
)
from versionjudge.locks import is_lock, lock_of, lock_text
from versionjudge.stores import is_world, world_text

LOW, HIGH = ((ONE, TWO),), ((TWO, None),)
APP = release(ONE, needs=(need("core"),))
WORLD = (("main", (("app", (APP,)), ("core", (release(ONE),)))), ("side", ()))
ASKS = asks_for(need("app"))
LOCK = ((), (("app", own(ONE), ()), ("core", own(ONE), ())))
INSTALL = ("install",)
METHODS = {"world": [], "asks": [], "asks_now": [], "installed": [], "answer": [], "state_of_lock": [], "do": ["deed"],
           "undo": [], "redo": [], "copied": [], "text": []}


def desk_with(*deeds, world=WORLD, asks=ASKS):
    desk = Desk(world, asks)
    for deed in deeds:
        desk.do(deed)
    return desk


def held(desk):
    return (desk.world(), desk.asks(), desk.installed())


def put(version, name="core", label="main", **parts):
    return ("put", label, name, release(version, **parts))


class DesksTest(unittest.TestCase):
    def test_the_class(self):
        self.assertEqual(list(inspect.signature(Desk).parameters), ["world", "asks"])
        for name, parameters in METHODS.items():
            self.assertIn(name, vars(Desk))
            self.assertEqual(list(inspect.signature(vars(Desk)[name]).parameters), ["self", *parameters])
        self.assertEqual(list(inspect.signature(read_desk).parameters), ["text"])
        self.assertEqual((Desk.__module__, Desk.__bases__), ("versionjudge.desks", (object,)))
        self.assertEqual(desks.read_desk.__module__, "versionjudge.desks")

    def test_a_new_desk(self):
        for desk in (Desk(WORLD, ASKS), Desk(world=WORLD, asks=ASKS), Desk(asks=ASKS, world=WORLD)):
            self.assertEqual(exactly(held(desk)), exactly((WORLD, ASKS, None)))
            self.assertEqual(desk.asks_now(), ASKS)
            self.assertIsNone(desk.state_of_lock())
            self.assertEqual(desk.answer()[:2], ("choice", (1, 1)))
            self.assertIs(answer_holds(WORLD, ASKS, desk.answer()), True)
            with self.assertRaises(NothingToUndo):
                desk.undo()
            with self.assertRaises(NothingToRedo):
                desk.redo()

    def test_bad_arguments(self):
        for thing in ANY_VALUES + [ASKS, [*WORLD], Desk(WORLD, ASKS)]:
            for asks in (ASKS, None):
                with self.assertRaises(BadWorld) as caught:
                    Desk(thing, asks)
                self.assertIs(caught.exception.thing, thing)
        kept = asks_for(need("app"), kept=(("app", ("main", ONE)),))
        self.assertIs(is_asks(kept), True)
        for thing in ANY_VALUES + [WORLD, [*ASKS], kept, asks_for(kept=[]), Desk(WORLD, ASKS)]:
            with self.assertRaises(BadAsks) as caught:
                Desk(WORLD, thing)
            self.assertIs(caught.exception.thing, thing)

    def test_asks_now(self):
        desk = desk_with(INSTALL)
        kept = (("app", ("main", ONE)), ("core", ("main", ONE)))
        self.assertEqual(desk.asks(), ASKS)
        self.assertEqual(desk.asks_now(), (ASKS[0], (), kept, ASKS[3]))
        self.assertEqual(desk.answer()[:2], ("choice", (0, 0)))
        self.assertEqual(desk.state_of_lock(), ("kept", (0, 0)))
        # What stands in is not kept itself.
        world = world_of(core=[release(ONE, stands=(("app", TWO),))])
        desk = desk_with(INSTALL, world=world)
        self.assertEqual(desk.installed()[1][0], ("app", ("for", "core", "main", ONE, TWO), ()))
        self.assertEqual(desk.asks_now()[2], (("core", ("main", ONE)),))

    def test_state_of_lock(self):
        for deeds, kinds in (((), ("kept",)), ((("target", (("a", "b"),)),), ("target",)),
                             ((("unwish", 0),), ("entry",)), ((("wish", need("core", HIGH)),), ("bar",)),
                             ((("unwish", 0), ("target", (("a", "b"),))), ("target", "entry"))):
            desk = desk_with(INSTALL, *deeds)
            found = desk.state_of_lock()
            self.assertIn(found[0], kinds)
            self.assertTrue(is_lock_certificate(Demands(desk.world(), desk.asks_now()), desk.installed(), found))

    def test_answers(self):
        desk = desk_with(("wish", need("core", HIGH)))
        self.assertEqual(desk.answer()[0], "none")
        self.assertTrue(is_first_certificate(Demands(WORLD, desk.asks()).problem, desk.answer()))


class DeedsTest(unittest.TestCase):
    def check(self, deed, world, asks, lock=None, before=()):
        """Check what a desk holds after a deed, when it is undone, and when it is done again."""
        desk = desk_with(*before)
        old = (held(desk), desk.text())
        self.assertIsNone(desk.do(deed))
        new = (held(desk), desk.text())
        self.assertEqual(exactly(new[0]), exactly((world, asks, lock)))
        self.assertIs(is_world(desk.world()) and is_asks(desk.asks()), True)
        for _ in range(2):
            self.assertIsNone(desk.undo())
            self.assertEqual(exactly((held(desk), desk.text())), exactly(old))
            self.assertIsNone(desk.redo())
            self.assertEqual(exactly((held(desk), desk.text())), exactly(new))
        with self.assertRaises(NothingToRedo):
            desk.redo()
        named = desk_with(*before)
        named.do(deed=deed)
        self.assertEqual(exactly(held(named)), exactly(new[0]))

    def test_wishes(self):
        more = need("core", LOW, ("x",), NEVER)
        self.check(("wish", more), WORLD, asks_for(need("app"), more))
        self.check(("wish", need("app")), WORLD, asks_for(need("app"), need("app")))
        self.check(("unwish", 0), WORLD, asks_for())
        three = [("wish", need("b")), ("wish", need("c"))]
        for k, left in enumerate(("bc", ["app", "c"], ["app", "b"])):
            self.check(("unwish", k), WORLD, asks_for(*[need(name) for name in left]), before=three)

    def test_target_and_manner(self):
        target = (("arch", "arm"), ("os", "linux"))
        self.check(("target", target), WORLD, asks_for(need("app"), target=target))
        self.check(("target", ()), WORLD, ASKS)
        self.check(("target", ()), WORLD, ASKS, before=[("target", target)])
        early = asks_for(need("app"), way="oldest", sight="first", early=True)
        self.check(("manner", ("oldest", "first", True)), WORLD, early)
        self.check(("manner", ASKS[3]), WORLD, ASKS)

    def test_put(self):
        main, side = WORLD
        app, core = main[1]
        for version, at in (((0, 0, 0, 0, 0), 0), (TWO, 1), (BETA, 1)):
            releases = list(core[1])
            releases.insert(at, release(version, needs=(need("app"),)))
            self.check(put(version, needs=(need("app"),)), (("main", (app, ("core", tuple(releases)))), side), ASKS)
        # A new shelf, before, between and behind the others, and in a store without any.
        for name, at in (("a", 0), ("base", 1), ("zoo", 2)):
            shelves = [app, core]
            shelves.insert(at, (name, (release(ONE, withdrawn=True),)))
            self.check(put(ONE, name, withdrawn=True), (("main", tuple(shelves)), side), ASKS)
        self.check(put(ONE, "core", "side"), (main, ("side", (("core", (release(ONE),)),))), ASKS)

    def test_withdraw(self):
        main, side = WORLD
        gone = ("core", (release(ONE, withdrawn=True),))
        self.check(("withdraw", "main", "core", ONE), (("main", (main[1][0], gone)), side), ASKS)
        self.check(("withdraw", "main", "app", ONE), (("main", (("app", ((*APP[:5], True),)), main[1][1])), side), ASKS)
        two = [put(TWO, "core", "side"), put(THREE, "core", "side")]
        self.check(("withdraw", "side", "core", THREE), (
            main, ("side", (("core", (release(TWO), release(THREE, withdrawn=True))),))), ASKS, before=two)

    def test_install(self):
        self.check(INSTALL, WORLD, ASKS, LOCK)
        self.check(INSTALL, WORLD, ASKS, LOCK, before=[INSTALL])
        self.check(INSTALL, WORLD, asks_for(), ((), ()), before=[INSTALL, ("unwish", 0)])
        target = (("a", "b"),)
        self.check(INSTALL, WORLD, asks_for(need("app"), target=target), (target, LOCK[1]), before=[("target", target)])

    def test_a_lock_stays_when_the_rest_changes(self):
        desk = desk_with(INSTALL, ("wish", need("base")), ("target", (("a", "b"),)), put(TWO), ("unwish", 0))
        self.assertEqual(desk.installed(), LOCK)

    def test_install_where_no_choice_is_right(self):
        for lock, before in ((None, []), (LOCK, [INSTALL])):
            desk = desk_with(*before, ("wish", need("base")), ("target", (("a", "b"),)))
            desk.undo()
            old = (held(desk), desk.text())
            with self.assertRaises(NoChoice) as caught:
                desk.do(INSTALL)
            certificate = caught.exception.certificate
            self.assertEqual((certificate[0], len(certificate)), ("none", 2))
            self.assertTrue(is_first_certificate(Demands(desk.world(), desk.asks_now()).problem, certificate))
            self.assertEqual(exactly((held(desk), desk.text())), exactly(old))
            self.assertEqual(desk.installed(), lock)
            # What was undone can still be done again, and what was done undone.
            desk.redo()
            self.assertEqual(desk.asks()[1], (("a", "b"),))
            for _ in range(2 + len(before)):
                desk.undo()
            self.assertEqual(held(desk), (WORLD, ASKS, None))

    def test_wrong_deeds(self):
        desk = desk_with(INSTALL, ("wish", need("core")), put(TWO), ("withdraw", "main", "core", TWO), ("target", ()))
        desk.undo()
        old = (held(desk), desk.text())
        good = [("wish", need("core")), ("unwish", 0), ("target", (("a", "b"),)), ("manner", ("newest", "all", False)),
                put(THREE), ("withdraw", "main", "app", ONE), INSTALL]
        wrong = [value for deed in good for value in wrong_ones([deed])] + [
            (), ("install", ()), ("install", None), ["install"], "install", ("Install",), (INSTALL,), ("undo",),
            ("redo",),
            ("unwish", 2), ("unwish", -1), ("unwish", True), ("unwish", False), ("unwish", None), ("unwish",),
            ("unwish", 0, 1), ("unwish", (0,)), ("wish",), ("wish", None), ("wish", ("core", ALL, ())),
            ("wish", need("Core")), ("wish", need("core"), need("app")), ("wish", [*need("core")]),
            ("target", None), ("target",), ("target", []), ("target", (("b", "x"), ("a", "x"))),
            ("target", (("a", "b"),) * 2),
            ("manner", ("all", "newest", False)), ("manner", ("newest", "all", 0)), ("manner", ("newest", "all")),
            ("manner", "newest", "all", False), ("manner", ["newest", "all", False]), ("manner", None),
            put(ONE), put(TWO), put(ONE, withdrawn=True), put(ONE, needs=(need("app"),)), put(ONE, label="far"),
            put(ONE, "Core", "side"), put(ONE, "", "side"), put(ONE, None, "side"), put(ONE, "abcdefghijk", "side"),
            put(THREE, label=None), ("put", "main", "core", release((1, 0, 0))), ("put", "main", "core", None),
            ("put", "main", "core", [*release(THREE)]), ("put", "main", "core"),
            ("put", "main", "core", release(THREE), 0),
            ("put", "main", release(THREE), "core"), ("put", "main", "core", release(THREE, withdrawn=0)),
            ("put", ("main",), "core", release(THREE)), ("put", "main", ("core",), release(THREE)),
            ("withdraw", "main", "core", TWO), ("withdraw", "main", "core", THREE), ("withdraw", "main", "base", ONE),
            ("withdraw", "side", "core", ONE), ("withdraw", "far", "core", ONE), ("withdraw", "main", "core", None),
            ("withdraw", "main", "core", (1, 0, 0, 3, False)), ("withdraw", "main", "core", [*ONE]),
            ("withdraw", "main", "core"),
            ("withdraw", "main", "core", ONE, ONE), ("withdraw", "main", "core", release(ONE)),
            ("withdraw", None, None, None),
            ("withdraw", "main", "core", (True, 0, 0, 3, 0)),
        ]
        refused = 0
        for thing in ANY_VALUES + wrong:
            before = copy.deepcopy(thing)
            try:
                desk.do(thing)
            except BadDeed as error:
                self.assertIs(error.thing, thing)
                self.assertEqual(exactly(thing), exactly(before))
                self.assertEqual(exactly((held(desk), desk.text())), exactly(old), thing)
                refused += 1
            else:
                # A changed deed may be another one that is possible.
                self.assertIn(thing[0], ("wish", "unwish", "target", "manner", "put", "withdraw"))
                self.assertNotIn(exactly(thing), [exactly(value) for value in ANY_VALUES + wrong[-60:]])
                desk.undo()
                self.assertEqual(exactly((held(desk), desk.text())), exactly(old))
                desk = desk_with(INSTALL, ("wish", need("core")), put(TWO), ("withdraw", "main", "core", TWO),
                                 ("target", ()))
                desk.undo()
        self.assertGreater(refused, 500)
        # What was undone before all these errors can still be done again.
        desk = desk_with(("target", ()))
        desk.undo()
        for thing in wrong[-20:]:
            with self.assertRaises(BadDeed):
                desk.do(thing)
        desk.redo()


class UndoTest(unittest.TestCase):
    DEEDS = [("wish", need("core")), INSTALL, put(TWO), ("withdraw", "main", "core", ONE), ("target", (("a", "b"),)),
             ("unwish", 0), ("manner", ("oldest", "all", True)), INSTALL, ("target", (("a", "b"),))]

    def test_all_the_way(self):
        desk = Desk(WORLD, ASKS)
        states = [held(desk)]
        for deed in self.DEEDS:
            desk.do(deed)
            states.append(held(desk))
        for _ in range(2):
            for state in states[-2::-1]:
                desk.undo()
                self.assertEqual(exactly(held(desk)), exactly(state))
            with self.assertRaises(NothingToUndo):
                desk.undo()
            self.assertEqual(held(desk), states[0])
            for state in states[1:]:
                desk.redo()
                self.assertEqual(exactly(held(desk)), exactly(state))
            with self.assertRaises(NothingToRedo):
                desk.redo()
            self.assertEqual(held(desk), states[-1])

    def test_after_a_new_deed_nothing_can_be_redone(self):
        desk = desk_with(*self.DEEDS)
        for _ in range(4):
            desk.undo()
        desk.redo()
        self.assertEqual(desk.asks()[0], (need("core"),))
        desk.do(("unwish", 0))
        with self.assertRaises(NothingToRedo):
            desk.redo()
        desk.undo()
        self.assertEqual(desk.asks()[0], (need("core"),))
        desk.redo()
        self.assertEqual(desk.asks()[0], ())

    def test_a_deed_that_changes_nothing(self):
        desk = desk_with(("target", ()), ("manner", ASKS[3]))
        desk.undo()
        desk.undo()
        with self.assertRaises(NothingToUndo):
            desk.undo()
        desk.redo()
        desk.do(("target", ()))
        with self.assertRaises(NothingToRedo):
            desk.redo()

    def test_forty_deeds(self):
        desk = desk_with(*[("wish", need("core")) for _ in range(40)])
        self.assertEqual(len(desk.asks()[0]), 41)
        for _ in range(40):
            desk.undo()
        self.assertEqual(desk, Desk(WORLD, ASKS))

    def test_copies_go_their_own_way(self):
        desk = desk_with(*self.DEEDS)
        for _ in range(3):
            desk.undo()
        twin = desk.copied()
        self.assertIsInstance(twin, Desk)
        self.assertIsNot(twin, desk)
        self.assertEqual(twin, desk)
        self.assertEqual(exactly(held(twin)), exactly(held(desk)))
        before = held(desk)
        twin.redo()
        twin.do(("wish", need("base")))
        self.assertEqual(held(desk), before)
        self.assertNotEqual(twin, desk)
        # Both have the same deeds to undo, and the old one has its own to redo.
        other = desk.copied()
        for _ in range(3):
            desk.redo()
            other.redo()
            self.assertEqual(held(desk), held(other))
        for _ in self.DEEDS:
            desk.undo()
        self.assertEqual(held(desk), (WORLD, ASKS, None))
        for _ in self.DEEDS:
            other.undo()
        self.assertEqual(held(other), (WORLD, ASKS, None))
        for _ in range(8):
            twin.undo()
        self.assertEqual(held(twin), (WORLD, ASKS, None))
        for one in (twin, other):
            one.redo()
            self.assertEqual(one.asks()[0], (need("app"), need("core")))

    def test_arguments_are_not_changed(self):
        world, asks = copy.deepcopy(WORLD), copy.deepcopy(ASKS)
        desk = Desk(world, asks)
        for deed in self.DEEDS:
            desk.do(deed)
        self.assertEqual((world, asks), (WORLD, ASKS))


class KeptTest(unittest.TestCase):
    def test_newer_releases_change_nothing(self):
        desk = desk_with(INSTALL)
        for deed in (put(TWO), put(THREE, "app"), put((9, 0, 0, 3, 0), "app", "side", needs=(need("new"),)),
                     ("withdraw", "main", "core", ONE), ("withdraw", "main", "app", ONE), ("wish", need("core")),
                     ("manner", ("newest", "all", True)), put((1, 0, 1, 0, 0))):
            desk.do(deed)
            self.assertEqual(desk.state_of_lock()[0], "kept")
            desk.do(INSTALL)
            self.assertEqual(desk.installed(), LOCK)
        # What is not right any more gives way.
        desk.do(("wish", need("core", HIGH)))
        self.assertEqual(desk.state_of_lock()[0], "bar")
        desk.do(INSTALL)
        self.assertEqual(desk.installed()[1][1], ("core", own(TWO), ()))

    def some_deed(self, chance, desk):
        names = ["app", "base", "core", "tool"]
        name = chance.choice(names)
        kind = chance.choice(["wish", "unwish", "target", "manner", "put", "put", "put", "withdraw", "install",
                              "install"])
        if kind == "wish":
            return ("wish", need(name, chance.choice([ALL, ALL, LOW, HIGH]), ("x",) if chance.random() < 0.2 else ()))
        if kind == "unwish":
            return ("unwish", chance.randrange(3))
        if kind == "target":
            return ("target", chance.choice([(), (("os", "linux"),)]))
        if kind == "manner":
            return ("manner", (chance.choice(["newest", "oldest"]), chance.choice(["all", "first"]),
                               chance.random() < 0.5))
        if kind == "withdraw":
            return ("withdraw", chance.choice(["main", "side"]), name, chance.choice([ONE, TWO, THREE]))
        if kind == "install":
            return INSTALL
        needs = [need(chance.choice(names), ALL, (), chance.choice([LINUX, ("always",)]))]
        needs = needs if chance.random() < 0.4 else []
        stands = ((chance.choice(names), TWO),) if chance.random() < 0.1 else ()
        return ("put", chance.choice(["main", "side"]), name,
                release(chance.choice([ONE, TWO, BETA, THREE]), tuple(needs), extras=(("x", ()),), stands=stands))

    def test_many_desks(self):
        chance = random.Random(141)
        counts = {"kept": 0, "changed": 0, "none": 0, "bad": 0}
        for _ in range(150):
            desk = Desk(WORLD, ASKS)
            history, at = [held(desk)], 0
            for _ in range(16):
                if chance.random() < 0.2:
                    at = self.step_back_or_forth(chance, desk, history, at)
                    continue
                deed = self.some_deed(chance, desk)
                size = 1
                for i in Demands(desk.world(), desk.asks_now()).sizes:
                    size *= i
                if deed == INSTALL and size > 500:
                    continue
                outcome = self.do(desk, deed)
                if outcome in counts:
                    counts[outcome] += 1
                if outcome not in ("none", "bad"):
                    history, at = [*history[:at + 1], held(desk)], at + 1
                self.assertEqual(exactly(held(desk)), exactly(history[at]))
                self.assertEqual(exactly(held(read_desk(desk.text()))), exactly(held(desk)))
        self.assertGreater(min(counts.values()), 20, counts)

    def step_back_or_forth(self, chance, desk, history, at):
        move, call, error = chance.choice([(-1, desk.undo, NothingToUndo), (1, desk.redo, NothingToRedo)])
        if 0 <= at + move < len(history):
            call()
            at += move
        else:
            with self.assertRaises(error):
                call()
        self.assertEqual(exactly(held(desk)), exactly(history[at]))
        return at

    def do(self, desk, deed):
        """Do a deed, check what an install makes, and tell what became of it."""
        before, now, state = held(desk), desk.asks_now(), desk.state_of_lock()
        try:
            desk.do(deed)
        except BadDeed as error:
            self.assertIs(error.thing, deed)
            return "bad"
        except NoChoice as error:
            self.assertTrue(is_first_certificate(Demands(before[0], now).problem, error.certificate))
            return "none"
        if deed != INSTALL:
            return "done"
        lock = desk.installed()
        self.assertIs(is_lock(lock), True)
        self.assertEqual(lock, lock_of(before[0], now, chosen(before[0], now)))
        old = before[2] and [entry[:2] for entry in before[2][1]]
        if state is not None and state[0] == "kept" and not any(entry[1][0] == "for" for entry in before[2][1]):
            self.assertEqual([entry[:2] for entry in lock[1]], old)
            return "kept"
        return "first" if old is None else "changed"


class EqualityTest(unittest.TestCase):
    def test_equal_texts(self):
        one, other = desk_with(INSTALL), desk_with(("wish", need("core")), INSTALL, ("unwish", 1))
        self.assertEqual(one.text(), other.text())
        self.assertIs(one == other, True)
        self.assertIs(one != other, False)
        self.assertIs(one == read_desk(one.text()), True)
        for deeds in ((), (INSTALL, INSTALL, put(TWO)), (INSTALL, ("target", (("a", "b"),))),
                      (INSTALL, ("wish", need("core"))), (INSTALL, ("manner", ("oldest", "all", False))),
                      (("target", (("a", "b"),)), INSTALL, ("target", ()))):
            different = desk_with(*deeds)
            self.assertIs(one == different, False)
            self.assertIs(one != different, True)

    def test_values_of_other_kinds(self):
        desk = desk_with(INSTALL)
        for value in [desk.text(), held(desk), WORLD, LOCK, Desk, [desk], (desk,), object()] + ANY_VALUES:
            if not isinstance(value, Desk):
                self.assertIs(desk == value, False)
                self.assertIs(value == desk, False)
                self.assertIs(desk != value, True)
        self.assertIs((desk,) == (desk_with(INSTALL),), True)


class TextsTest(unittest.TestCase):
    def check(self, at, text):
        with self.assertRaises(BadText) as caught:
            read_desk(text)
        self.assertEqual(exactly(caught.exception.at), exactly(at), text)

    def full(self):
        """A desk with something of everything."""
        desk = Desk(RICH, asks_for(need("core", LOW, (), LINUX), need("tool", ALL, ("fast", "safe"), NEVER),
                                   target=(("arch", "arm"), ("cpu", "fast")), way="oldest", sight="first", early=True))
        desk.do(("wish", need("core", ((FIRST, BETA), (THREE, None)))))
        desk.do(INSTALL)
        return desk

    def test_texts(self):
        desk = desk_with(("wish", need("core", LOW, ("x",), LINUX)), ("target", (("a", "b"), ("c", "d"))),
                         ("manner", ("oldest", "first", True)))
        rows = ["store main", "shelf app", "release 1.0.0", "need core *", "shelf core", "release 1.0.0", "store side",
                "wish app *", "wish core[x] >=1.0.0 <2.0.0 if os=linux", "for a=b,c=d", "manner oldest first early"]
        self.assertEqual(desk.text(), "\n".join(rows))
        self.assertEqual(Desk(WORLD, asks_for()).text(), "\n".join([*rows[:7], "for", "manner newest all whole"]))
        self.assertEqual(desk_with(INSTALL).text(), "\n".join(
            [*rows[:8], "for", "manner newest all whole", "installed", "target", "app main 1.0.0", "core main 1.0.0"]))

    def test_there_and_back(self):
        for desk in (Desk(WORLD, ASKS), desk_with(INSTALL), self.full(), Desk(RICH, asks_for()), desk_with(
                ("target", (("a", "b"),)), INSTALL, ("target", ()), ("unwish", 0))):
            found = read_desk(desk.text())
            self.assertIsInstance(found, Desk)
            self.assertIs(found == desk, True)
            self.assertEqual(exactly(held(found)), exactly(held(desk)))
            self.assertEqual(read_desk(text=desk.text()).text(), desk.text())
            with self.assertRaises(NothingToUndo):
                found.undo()
            with self.assertRaises(NothingToRedo):
                found.redo()
        # Each way to write a range, and a condition that always holds, may be read.
        found = read_desk(world_text(WORLD) + "\nwish core ^1.0.0 || =3.0.0 if always\nfor\nmanner newest all whole")
        self.assertEqual(found.asks()[0], (need("core", ((ONE, (2, 0, 0, 0, 0)), (THREE, (3, 0, 1, 0, 0)))),))
        # Whatever lock is installed, it may be read.
        for lock in (((), ()), ((("k", "v"),), (("zoo", ("for", "for", "as", ONE, RC), ("x", "y")),))):
            found = read_desk(Desk(WORLD, ASKS).text() + "\ninstalled\n" + lock_text(lock))
            self.assertEqual(exactly(found.installed()), exactly(lock))
            self.assertEqual(found.do(INSTALL), None)

    def test_what_is_no_string(self):
        for thing in ANY_VALUES + [Desk(WORLD, ASKS)]:
            self.check(-1 if not isinstance(thing, str) else 1, thing)

    def test_missing_lines(self):
        for desk in (desk_with(INSTALL), self.full()):
            rows = desk.text().split("\n")
            end = rows.index("installed")
            for many in range(len(rows)):
                text = "\n".join(rows[:many])
                if many == end or many >= end + 2:
                    self.assertEqual(read_desk(text).text(), text)
                else:
                    self.check(many + 1, text)

    def test_wrong_lines(self):
        head = world_text(WORLD)
        many = head.count("\n") + 1
        tail = ["for", "manner newest all whole"]
        for line in ("", "x", "wish", "wish ", "wish core", "wish core ", "wish core * if", "wish core * if os",
                     "wish Core *",
                     "wish core[b,a] *", "Wish core *", " wish core *", "wish core  *", "forx", "for ", "for a",
                     "for a=b,a=c",
                     "for b=b,a=c", "For", "manner newest all whole", "installed", "target", "need core *",
                     "store main",
                     "store side", "release 1.0.0", "withdrawn", "with core *", "wish core * if always ", "for a=b "):
            self.check(many + 1, "\n".join([head, line, *tail]))
            self.check(many + 2, "\n".join([head, "wish app *", line, *tail]))
            self.check(many + 1, "\n".join([head, line]))
        for line in ("", "x", "for", "manner", "manner ", "manner newest", "manner newest all", "manner newest all ",
                     "manner newest all late", "manner all newest whole", "manner newest all whole ",
                     "manner new all whole",
                     "manner newest all True", "Manner newest all whole", "manner newest  all whole", "wish app *",
                     "installed",
                     "manner newest all earl", "manner oldest some early", "manner newest all wholee"):
            self.check(many + 2, "\n".join([head, "for", line]))
            self.check(many + 2, "\n".join([head, "for", line, "installed", "target"]))
        for line in ("", "x", "target", "Installed", "installed ", "installed target", "installedx", "for",
                     "wish app *",
                     "manner newest all whole"):
            self.check(many + 3, "\n".join([head, *tail, line]))
            self.check(many + 3, "\n".join([head, *tail, line, "target"]))
        for line in ("", "x", "target ", "app main 1.0.0", "targets", "installed"):
            self.check(many + 4, "\n".join([head, *tail, "installed", line]))
        for line in ("", "target", "app main", "app main 1.0.0 []", "app for core main 1.0.0 as", "wish app *",
                     "app main 1"):
            self.check(many + 5, "\n".join([head, *tail, "installed", "target", line]))
            self.check(many + 6, "\n".join([head, *tail, "installed", "target", "aa main 1.0.0", line]))
        self.check(many + 6, "\n".join([head, *tail, "installed", "target", "b main 1.0.0", "a main 1.0.0"]))
        self.check(many + 3, "\n".join([head, *tail, ""]))
        self.check(1, "")
        self.check(1, "\n".join(tail))

    def test_wrong_worlds(self):
        tail = ["for", "manner newest all whole"]
        for rows, at in ((["store main", "shelf core"], 3), (["store main", "store main"], 2), (["shelf core"], 1),
                         (["store a", "store b", "store c", "store d", "store e"], 5),
                         (["store main", "release 1.0.0"], 2),
                         (["store main", "shelf b", "release 1.0.0", "shelf a", "release 1.0.0"], 4)):
            self.check(at, "\n".join(rows + tail))
        self.check(3, "store main\nshelf core\nfor")


if __name__ == "__main__":
    unittest.main()
