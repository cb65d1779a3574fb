import random
import unittest

from tests.judges import is_first_certificate, rules_all_out
from tests.plain_demands import Demands, kind_scenes, small_scenes
from tests.samples import ANY_VALUES, exactly, wrong_ones
from tests.test_asks import world_of
from tests.test_problems import plain_bars, some_lines, some_problem
from tests.worlds import ALL, LINUX, ONE, RC, THREE, TWO, asks_for, need, release
from versionjudge.demands import answer, problem_of
from versionjudge.errors import (
    BadAsks, BadBar, BadLines, BadNumber, BadProblem, BadStory, BadWorld,
)
from versionjudge.ranges import range_text
from versionjudge.resolver import resolve
from versionjudge.stores import need_text
from versionjudge.stories import (
    bar_text, depth_of, read_story, shortened, state_text, story, tells_none, variable_text,
)
from versionjudge.versions import version_text

LOW, HIGH = ((ONE, TWO),), ((TWO, None),)
# Each kind of cause occurs, variables of each kind, and states of each kind.
RICH = world_of(
    app=[release(ONE, needs=(need("core", LOW, ("fast",), LINUX), need("base")), bars=(("base", LOW), ("core", HIGH)),
                 extras=(("log", (need("core", HIGH),)),)),
         release(TWO, extras=(("log", (need("base", ALL, (), LINUX), need("core", LOW, ("fast",)))),))],
    core=[release(ONE, extras=(("fast", ()),), stands=(("base", RC),)), release(TWO)],
    base=[release(THREE)])
ASKS = asks_for(need("app", ALL, ("log",)), need("tool", ALL, (), ("not", LINUX)), need("base", HIGH, (), LINUX),
                target=(("os", "linux"),))
SMALL = world_of(app=[release(TWO, needs=(need("core", ((ONE, None),)),))], core=[release(ONE)])
FEW = asks_for(need("app"))
LINES = (("given", 0), ("given", 1), ("join", 0, 0, 1))
TOLD = ("1: given 1, wish 1 app *: never app is none",
        "2: given 2, app main 2.0.0 needs core >=1.0.0: never app is main 2.0.0, core is none",
        "3: from 1 and 2 at app: never core is none")


def plain_state(state):
    words = [version_text(part) if isinstance(part, tuple) else part for part in state]
    if state[0] == "for":
        words.insert(-1, "as")
    return " ".join(words[1:] or words)


def plain_variable(variable):
    return variable[0] + (f"[{variable[1]}]" if variable[1] else "")


def plain_bar(demands, bar):
    terms = []
    for i, few in bar:
        texts = [plain_state(state) for state in demands.states[demands.variables[i]]]
        inside = [text for s, text in enumerate(texts) if s in few]
        outside = [text for s, text in enumerate(texts) if s not in few]
        told = " is not " + " or ".join(outside) if len(inside) > len(outside) else " is " + " or ".join(inside)
        terms.append(plain_variable(demands.variables[i]) + told)
    return ", ".join(terms) or "anything"


def plain_reason(demands, cause):
    kind, i = cause[:2]
    if kind == "wish":
        return f"wish {i + 1} {need_text(demands.asks[0][i])}"
    name, option = demands.variables[i]
    if kind == "option":
        return plain_variable((name, option)) + " is not everywhere"
    state = demands.states[name, ""][cause[2]]
    if kind == "stand":
        return f"{name} {plain_state(state)} stands on {state[1]}"
    one = demands.release(name, state)
    if kind == "bar":
        return f"{name} {plain_state(state)} bars {one[2][cause[3]][0]} {range_text(one[2][cause[3]][1])}"
    if kind == "need":
        return f"{name} {plain_state(state)} needs {need_text(one[1][cause[3]])}"
    return f"{name}[{option}] at {plain_state(state)} needs {need_text(dict(one[3])[option][cause[3]])}"


def plain_row(demands, at, line, bar):
    if line[0] == "given":
        origin = f"given {line[1] + 1}, {plain_reason(demands, demands.causes[line[1]])}"
    else:
        origin = f"from {line[2] + 1} and {line[3] + 1} at {plain_variable(demands.variables[line[1]])}"
    return f"{at + 1}: {origin}: never {plain_bar(demands, bar)}"


def plain_story(demands, lines):
    bars = plain_bars(demands.problem, lines)
    return tuple(plain_row(demands, at, line, bars[at]) for at, line in enumerate(lines))


def rows_that_may_follow(demands, lines):
    """For lines, each row of a story that may follow, with its line."""
    many = range(len(lines))
    more = [("given", j) for j in range(len(demands.causes))]
    more += [("join", i, a, b) for i in range(len(demands.variables)) for a in many for b in many]
    found = {}
    for line in more:
        bars = plain_bars(demands.problem, (*lines, line))
        if bars is not None:
            row = plain_row(demands, len(lines), line, bars[-1])
            assert row not in found
            found[row] = line
    return found


class TextsTest(unittest.TestCase):
    def test_variables_and_states(self):
        self.assertEqual([variable_text(RICH, ASKS, i) for i in range(5)],
                         ["app", "base", "core", "app[log]", "core[fast]"])
        self.assertEqual([state_text(RICH, ASKS, 1, s) for s in range(3)],
                         ["none", "main 3.0.0", "core main 1.0.0 as 3.0.0-rc.1"])
        self.assertEqual([state_text(RICH, ASKS, 4, s) for s in range(2)], ["off", "on"])

    def test_bars(self):
        for bar, text in (
            ((), "anything"), (((0, (0,)),), "app is none"), (((0, (1,)),), "app is main 2.0.0"),
            (((0, (0, 2)),), "app is not main 2.0.0"), (((0, (1, 2)),), "app is not none"),
            (((3, (0,)),), "app[log] is off"), (((3, (1,)), (4, (0,))), "app[log] is on, core[fast] is off"),
            (((1, (0, 1)), (2, (0,))), "base is not core main 1.0.0 as 3.0.0-rc.1, core is none"),
        ):
            self.assertEqual(bar_text(RICH, ASKS, bar), text)
        four = world_of(app=[release(ONE), release(TWO), release(THREE)])
        for few, text in (((0,), "is none"), ((1, 2), "is main 3.0.0 or main 2.0.0"), ((0, 3), "is none or main 1.0.0"),
                          ((0, 1, 3), "is not main 2.0.0"), ((1, 2, 3), "is not none")):
            self.assertEqual(bar_text(four, FEW, ((0, few),)), f"app {text}")
        five = world_of(app=[release(ONE), release(TWO), release(THREE), release((4, 0, 0, 3, 0))])
        self.assertEqual(bar_text(five, FEW, ((0, (0, 4)),)), "app is none or main 1.0.0")
        self.assertEqual(bar_text(five, FEW, ((0, (0, 1, 4)),)), "app is not main 3.0.0 or main 2.0.0")

    def test_against_plain_words(self):
        chance = random.Random(101)
        for world, asks in small_scenes(chance, 60, product=2000):
            demands = Demands(world, asks)
            for i, variable in enumerate(demands.variables):
                self.assertEqual(variable_text(world, asks, i), plain_variable(variable))
                for s, state in enumerate(demands.states[variable]):
                    self.assertEqual(state_text(world, asks, i, s), plain_state(state))
            for bar in demands.problem[1]:
                self.assertEqual(bar_text(world, asks, bar), plain_bar(demands, bar))


class StoryTest(unittest.TestCase):
    def test_each_cause(self):
        lines = tuple(("given", j) for j in range(len(problem_of(RICH, ASKS)[1])))
        demands = Demands(RICH, ASKS)
        self.assertEqual({cause[0] for cause in demands.causes}, {"wish", "need", "bar", "stand", "option", "extra"})
        self.assertEqual(story(RICH, ASKS, lines), (
            "1: given 1, wish 1 app[log] *: never app is none",
            "2: given 2, wish 1 app[log] *: never app[log] is off",
            "3: given 3, wish 3 base >=2.0.0 if os=linux: never base is none",
            "4: given 4, app main 1.0.0 needs core[fast] >=1.0.0 <2.0.0 if os=linux: "
            "never app is main 1.0.0, core is not main 1.0.0",
            "5: given 5, app main 1.0.0 needs core[fast] >=1.0.0 <2.0.0 if os=linux: "
            "never app is main 1.0.0, core[fast] is off",
            "6: given 6, app main 1.0.0 needs base *: never app is main 1.0.0, base is none",
            "7: given 7, app main 1.0.0 bars core >=2.0.0: never app is main 1.0.0, core is main 2.0.0",
            "8: given 8, base core main 1.0.0 as 3.0.0-rc.1 stands on core: "
            "never base is core main 1.0.0 as 3.0.0-rc.1, core is not main 1.0.0",
            "9: given 9, app[log] is not everywhere: never app is none, app[log] is on",
            "10: given 10, app[log] at main 2.0.0 needs base * if os=linux: "
            "never app is main 2.0.0, base is none, app[log] is on",
            "11: given 11, app[log] at main 2.0.0 needs core[fast] >=1.0.0 <2.0.0: "
            "never app is main 2.0.0, core is not main 1.0.0, app[log] is on",
            "12: given 12, app[log] at main 2.0.0 needs core[fast] >=1.0.0 <2.0.0: "
            "never app is main 2.0.0, app[log] is on, core[fast] is off",
            "13: given 13, app[log] at main 1.0.0 needs core >=2.0.0: "
            "never app is main 1.0.0, core is not main 2.0.0, app[log] is on",
            "14: given 14, core[fast] is not everywhere: never core is not main 1.0.0, core[fast] is on",
        ))
        self.assertEqual(read_story(RICH, ASKS, story(RICH, ASKS, lines)), lines)

    def test_the_stated_one(self):
        self.assertEqual(story(SMALL, FEW, LINES), TOLD)
        self.assertEqual(story(SMALL, FEW, ()), ())
        self.assertEqual(read_story(SMALL, FEW, ()), ())
        self.assertEqual(exactly(read_story(SMALL, FEW, TOLD)), exactly(LINES))
        # Numbers with more than one digit.
        many = (("given", 1),) * 12 + (("join", 1, 9, 11),)
        told = story(SMALL, FEW, many)
        self.assertEqual(told[12], "13: from 10 and 12 at core: never app is main 2.0.0, core is none")
        self.assertEqual(read_story(SMALL, FEW, told), many)

    def test_anything(self):
        asks = asks_for(need("nowhere"))
        self.assertEqual(story(SMALL, asks, (("given", 0),)), ("1: given 1, wish 1 nowhere *: never anything",))
        self.assertIs(tells_none(SMALL, asks, story(SMALL, asks, (("given", 0),))), True)

    def test_against_plain_words_there_and_back(self):
        chance = random.Random(102)
        told_none = [0, 0]
        for world, asks in [*small_scenes(chance, 120), *kind_scenes(chance, 40)]:
            demands = Demands(world, asks)
            certificate = answer(world, asks)
            for lines in (some_lines(chance, demands.problem, 12), certificate[-1 if certificate[0] == "none" else 2]):
                told = story(world, asks, lines)
                self.assertEqual(told, plain_story(demands, lines))
                self.assertEqual(exactly(read_story(world, asks, told)), exactly(lines))
                none = rules_all_out(demands.problem, lines)
                self.assertIs(tells_none(world, asks, told), none)
                told_none[none] += 1
        self.assertGreater(min(told_none), 20)


class ReadingTest(unittest.TestCase):
    def check(self, at, world, asks, thing):
        with self.assertRaises(BadStory) as caught:
            read_story(world, asks, thing)
        self.assertEqual(exactly(caught.exception.at), exactly(at), thing)
        self.assertIs(tells_none(world, asks, thing), False)

    def test_what_is_no_tuple_of_strings(self):
        for thing in ANY_VALUES + [[*TOLD], (*TOLD, None), (None, *TOLD), (TOLD,), TOLD[0], (*TOLD[:2], [TOLD[2]])]:
            if exactly(thing) not in (exactly(()), exactly(("version",)), exactly(("within",)), exactly(("same",)),
                                      exactly(("alike",))):
                self.check(-1, SMALL, FEW, thing)
        # What is no string counts before what is no story.
        self.check(-1, SMALL, FEW, ("x", TOLD[0], 3))

    def test_wrong_rows(self):
        for row in [
            "", "x", "3", "3:", "3: ", "3: given", "3: given ", "3: given 1", "3: given 1,", "3: given 7", "3: given 0",
            "3: given 0, wish 1 app *: never app is none", "3: given 3, wish 1 app *: never app is none",
            "3: given 01, wish 1 app *: never app is none", "3: given 1 wish 1 app *: never app is none",
            "3: given 1, wish 2 app *: never app is none", "3: given 1, wish 1 app: never app is none",
            "3: given 1, wish 1 app *: never core is none", "3: given 1, wish 1 app *: never app is not main 2.0.0",
            "3: given 1, wish 1 app *: never app is none ", "3: given 1, wish 1 app *: never anything",
            " 3: given 1, wish 1 app *: never app is none", "03: given 1, wish 1 app *: never app is none",
            "2: given 1, wish 1 app *: never app is none", "3:  given 1, wish 1 app *: never app is none",
            "3: given 1, wish 1 app *: never app is none\n", "3: Given 1, wish 1 app *: never app is none",
            "3: given " + "9" * 1900 + ", wish", "3: given -1, wish 1 app *: never app is none", TOLD[0], TOLD[1],
            "3: given +1, wish 1 app *: never app is none", "3: given 1_0, wish 1 app *: never app is none",
            "3: from 1 and 2 at app", "3: from 1 and 2 at app: never app is none", "3: from 2 and 1 at core: never app",
            "3: from 1 and 2 at core: never core is none", "3: from 1 and 3 at app: never core is none",
            "3: from 0 and 2 at app: never core is none", "3: from 1 and 2 at tool: never core is none",
            "3: from 1 and 2 at app[x]: never core is none", "3: from 1 or 2 at app: never core is none",
            "3: from 1 and 2 in app: never core is none", "3: from 1 and 2 at app, never core is none",
            "3: from 1 and 2 at app: never core is none or none", "4: from 1 and 2 at app: never core is none",
            "3: from 1 and 02 at app: never core is none", "3: from 1 and 2 at app: never core is none x",
            "3: from one and 2 at app: never core is none", "3: from 1 and " + "9" * 1900 + " at app: never anything",
            "3: from  1 and 2 at app: never core is none", "3: from 1 and 2 at app: Never core is none",
        ]:
            self.check(2, SMALL, FEW, (*TOLD[:2], row))
            self.check(2, SMALL, FEW, (*TOLD[:2], row, TOLD[2]))
        for told, at in ((TOLD[1:], 0), ((TOLD[0], TOLD[2]), 1), (TOLD[::-1], 0), ((*TOLD, *TOLD), 3), (("x",) * 3, 0),
                         ((TOLD[0], TOLD[0]), 1), ((*TOLD[:2], TOLD[2], ""), 3)):
            self.check(at, SMALL, FEW, told)
        self.assertEqual(read_story(SMALL, FEW, (*TOLD[:2], "3: from 2 and 1 at app: never core is none"))[2],
                         ("join", 0, 1, 0))

    def test_a_join_that_is_none(self):
        world = world_of(app=[release(ONE, needs=(need("core", LOW),), bars=(("core", LOW),))], core=[release(ONE)])
        told = story(world, FEW, (("given", 1), ("given", 2)))
        self.assertEqual(told[1], "2: given 3, app main 1.0.0 bars core >=1.0.0 <2.0.0: never app is main 1.0.0, "
                                  "core is main 1.0.0")
        for row in ("3: from 1 and 2 at app: never app is main 1.0.0", "3: from 1 and 2 at app: never anything",
                    "3: from 1 and 2 at app: never "):
            self.check(2, world, FEW, (*told, row))
        self.assertEqual(read_story(world, FEW, (*told, "3: from 1 and 2 at core: never app is main 1.0.0"))[2],
                         ("join", 1, 0, 1))

    def test_changed_rows_against_all_rows(self):
        chance = random.Random(103)
        counts = [0, 0]
        for world, asks in kind_scenes(chance, 25):
            demands = Demands(world, asks)
            lines = some_lines(chance, demands.problem, 5)
            told = story(world, asks, lines)
            for at in range(len(lines) + 1):
                rows = rows_that_may_follow(demands, lines[:at])
                for row, line in rows.items():
                    self.assertEqual(read_story(world, asks, (*told[:at], row)), (*lines[:at], line))
                for row in self.spoiled(chance, list(rows)):
                    counts[row in rows] += 1
                    if row not in rows:
                        self.check(at, world, asks, (*told[:at], row, *told[at + 1:]))
        self.assertGreater(counts[0], 300)

    def spoiled(self, chance, rows):
        for row in chance.sample(rows, min(3, len(rows))):
            at = chance.randrange(len(row))
            for letter in "a1 ,:":
                yield row[:at] + letter + row[at + 1:]
                yield row[:at] + letter + row[at:]
            yield row[:at] + row[at + 1:]
            yield row[:at]

    def test_tells_none(self):
        nothing = asks_for(need("app"), need("core", HIGH))
        lines = answer(SMALL, nothing)[1]
        told = story(SMALL, nothing, lines)
        self.assertIs(tells_none(SMALL, nothing, told), True)
        for thing in wrong_ones([told]):
            wanted = False
            try:
                wanted = rules_all_out(problem_of(SMALL, nothing), read_story(SMALL, nothing, thing))
            except BadStory:
                pass
            self.assertIs(tells_none(SMALL, nothing, thing), wanted, thing)
        for thing in ((), told[:-1] if len(told) > 1 else (), [*told], told[::-1] + ("",), TOLD, told[0]):
            self.assertIs(tells_none(SMALL, nothing, thing), False)
        self.assertIs(tells_none(SMALL, FEW, TOLD), False)
        # Only the last line counts.
        more = (*lines, ("given", 0))
        self.assertIs(tells_none(SMALL, nothing, story(SMALL, nothing, more)), more == (("given", 0),))


def plain_needed(lines, ends):
    """The positions of the lines on which some end depends."""
    def behind(at):
        line = lines[at]
        return {at} | (behind(line[2]) | behind(line[3]) if line[0] == "join" else set())
    found = set()
    for end in ends:
        if end is not None:
            found |= behind(end)
    return found


def plain_shortened(lines, ends):
    kept, new = [], {}
    for at in sorted(plain_needed(lines, ends)):
        kind, *rest = lines[at]
        line = (kind, *rest) if kind == "given" else (kind, rest[0], new[rest[1]], new[rest[2]])
        if line not in kept:
            kept.append(line)
        new[at] = kept.index(line)
    return tuple(kept), tuple(None if end is None else new[end] for end in ends)


class ShortenedTest(unittest.TestCase):
    PROBLEM = ((2, 2, 2), (((0, (0,)),), ((0, (1,)), (1, (0,))), ((1, (1,)), (2, (0,)))))

    def test_equal_lines(self):
        lines = (("given", 0), ("given", 1), ("given", 1), ("join", 0, 0, 1), ("join", 0, 0, 2), ("given", 2),
                 ("join", 1, 3, 5), ("join", 1, 4, 5))
        self.assertEqual(shortened(self.PROBLEM, lines, (7,)),
                         ((("given", 0), ("given", 1), ("join", 0, 0, 1), ("given", 2), ("join", 1, 2, 3)), (4,)))
        self.assertEqual(shortened(self.PROBLEM, lines, (6, 7, 2, None)),
                         ((("given", 0), ("given", 1), ("join", 0, 0, 1), ("given", 2), ("join", 1, 2, 3)),
                          (4, 4, 1, None)))
        self.assertEqual(shortened(self.PROBLEM, lines, (5, None, 2)), ((("given", 1), ("given", 2)), (1, None, 0)))
        # Joins of the same lines the other way round are not equal.
        turned = (("given", 0), ("given", 1), ("join", 0, 0, 1), ("join", 0, 1, 0))
        self.assertEqual(shortened(self.PROBLEM, turned, (2, 3)), (turned, (2, 3)))

    def test_no_ends(self):
        for ends in ((), (None,), (None, None)):
            self.assertEqual(shortened(self.PROBLEM, (("given", 0), ("given", 1)), ends), ((), ends))
            self.assertEqual(shortened(self.PROBLEM, (), ends), ((), ends))

    def test_against_plain_words(self):
        chance = random.Random(104)
        for _ in range(200):
            problem = some_problem(chance)
            lines = some_lines(chance, problem, 15)
            some = [None, *range(len(lines))]
            ends = tuple(chance.choice(some) for _ in range(chance.randint(0, 3)))
            found = shortened(problem, lines, ends)
            self.assertEqual(exactly(found), exactly(plain_shortened(lines, ends)))
            # Nothing is left to shorten, and each end has the same bar.
            self.assertEqual(shortened(problem, *found), found)
            before, after = plain_bars(problem, lines), plain_bars(problem, found[0])
            for old, new in zip(ends, found[1]):
                self.assertEqual(old is None, new is None)
                self.assertTrue(old is None or before[old] == after[new])
            self.assertEqual(plain_needed(*found), set(range(len(found[0]))))
            self.assertEqual(len(set(found[0])), len(found[0]))

    def test_certificates_are_right_again(self):
        chance = random.Random(105)
        for _ in range(150):
            problem = some_problem(chance, bars=20)
            certificate = resolve(problem)
            if certificate[0] == "none":
                lines, _ = shortened(problem, certificate[1], (len(certificate[1]) - 1,))
                self.assertTrue(is_first_certificate(problem, ("none", lines)))
            else:
                self.assertTrue(is_first_certificate(problem, (*certificate[:2],
                                                               *shortened(problem, *certificate[2:]))))

    def test_depth(self):
        self.assertEqual(depth_of(self.PROBLEM, ()), 0)
        self.assertEqual(depth_of(self.PROBLEM, (("given", 0), ("given", 1))), 0)
        lines = (("given", 0), ("given", 1), ("join", 0, 0, 1), ("join", 0, 1, 1), ("join", 0, 0, 3), ("given", 2))
        self.assertEqual([depth_of(self.PROBLEM, lines[:k]) for k in range(7)], [0, 0, 0, 1, 1, 2, 2])
        # The last line is not the deepest one, and the first of two is the deeper one.
        self.assertEqual(depth_of(self.PROBLEM, (*lines, ("join", 1, 4, 3), ("join", 0, 0, 1))), 3)
        self.assertEqual(depth_of(self.PROBLEM, (("given", 2), *[("join", 2, k, k) for k in range(599)])), 599)


class BadArgumentsTest(unittest.TestCase):
    def check_error(self, kind, thing, call, *arguments):
        with self.assertRaises(kind) as caught:
            call(*arguments)
        self.assertIs(caught.exception.thing, thing)

    def test_worlds_and_asks(self):
        for call, rest in ((variable_text, (0,)), (state_text, (0, 0)), (bar_text, ((),)), (story, (LINES,)),
                           (read_story, (TOLD,)), (tells_none, (TOLD,))):
            bad = [None for _ in rest]
            for thing in ANY_VALUES + [FEW, [*SMALL]]:
                self.check_error(BadWorld, thing, call, thing, FEW, *rest)
                self.check_error(BadWorld, thing, call, thing, None, *bad)
            for thing in ANY_VALUES + [SMALL, [*FEW]]:
                self.check_error(BadAsks, thing, call, SMALL, thing, *rest)
                self.check_error(BadAsks, thing, call, SMALL, thing, *bad)

    def test_numbers(self):
        for thing in [2, -1] + [value for value in ANY_VALUES if exactly(value) not in (exactly(0), exactly(1))]:
            self.check_error(BadNumber, thing, variable_text, SMALL, FEW, thing)
            self.check_error(BadNumber, thing, state_text, SMALL, FEW, thing, 0)
            self.check_error(BadNumber, thing, state_text, SMALL, FEW, thing, None)
            self.check_error(BadNumber, thing, state_text, SMALL, FEW, 1, thing)

    def test_bars(self):
        for thing in ANY_VALUES + [((0, (0, 1)),), ((0, ()),), [(0, (0,))], ((2, (0,)),), ((0, (True,)),), ((0, [0]),)]:
            if exactly(thing) != exactly(()):
                self.check_error(BadBar, thing, bar_text, SMALL, FEW, thing)

    def test_lines(self):
        problem = problem_of(SMALL, FEW)
        for thing in ANY_VALUES + [[*LINES], LINES[1:], (*LINES, ("given", 2)), (("given", True),), TOLD]:
            if exactly(thing) != exactly(()):
                self.check_error(BadLines, thing, story, SMALL, FEW, thing)
                self.check_error(BadLines, thing, depth_of, problem, thing)
                for ends in ((), None, (0,)):
                    self.check_error(BadLines, thing, shortened, problem, thing, ends)

    def test_problems(self):
        for thing in ANY_VALUES + [((2, 2),), [(2, 2), ()], ((2, 0), ())]:
            if exactly(thing) != exactly(((), ())):
                self.check_error(BadProblem, thing, depth_of, thing, ())
                self.check_error(BadProblem, thing, depth_of, thing, None)
                self.check_error(BadProblem, thing, shortened, thing, (), ())
                self.check_error(BadProblem, thing, shortened, thing, None, None)

    def test_ends(self):
        problem, one = problem_of(SMALL, FEW), (0,)
        for thing in ANY_VALUES + [(3,), (-1,), (True,), (0, False), [0], (0, "1"), 0, (0, (1,)), (None, 3), (2.0,)]:
            if exactly(thing) not in (exactly(()), exactly((None,)), exactly((0,))):
                self.check_error(BadNumber, thing, shortened, problem, LINES, thing)
        # Without lines no position is one of a line.
        self.check_error(BadNumber, one, shortened, problem, (), one)


if __name__ == "__main__":
    unittest.main()
