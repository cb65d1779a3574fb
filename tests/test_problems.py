import itertools
import random
import unittest

from tests.samples import ANY_VALUES, exactly, wrong_ones
from versionjudge.errors import BadBar, BadChoice, BadLines, BadNumber, BadProblem
from versionjudge.problems import (
    are_lines, bar_holds, bars_of, do_cover, does_meet, is_bar, is_choice_of, is_problem, is_right_choice, join,
    judge_bar,
)

FEW = ((3, 2), (((0, (0,)),), ((0, (1,)),), ((0, (2,)), (1, (0,)))))
LINES = (("given", 0), ("given", 1), ("join", 0, 0, 1), ("given", 2))
# Variables of the sizes 1, 2 and 3, and bars of none, one, two and three terms.
ODD = ((2, 1, 3), (((0, (0,)), (2, (0, 1))), ((0, (1,)), (2, (1, 2))), ((2, (1,)),)))
BARE = ((), ())


def all_choices(problem):
    return list(itertools.product(*[range(size) for size in problem[0]]))


def met(choice, bar):
    return all(choice[i] in states for i, states in bar)


def right_choices(problem, bar=()):
    return [choice for choice in all_choices(problem)
            if met(choice, bar) and not any(met(choice, given) for given in problem[1])]


def all_bars(sizes):
    """All bars for sizes."""
    terms = [[()] + [((i, states),) for many in range(1, size) for states in itertools.combinations(range(size), many)]
             for i, size in enumerate(sizes)]
    return [sum(chosen, ()) for chosen in itertools.product(*terms)]


def plain_join(sizes, i, one, other):
    """What [6.2] says, with sets of states in which all states stand for no term."""
    full = [set(range(size)) for size in sizes]
    left = [set(dict(one).get(k, full[k])) for k in range(len(sizes))]
    right = [set(dict(other).get(k, full[k])) for k in range(len(sizes))]
    both = [left[k] | right[k] if k == i else left[k] & right[k] for k in range(len(sizes))]
    if set() in both:
        return None
    return tuple((k, tuple(sorted(both[k]))) for k in range(len(sizes)) if both[k] != full[k])


def plain_bars(problem, thing):
    """The bars of lines by [6.3], None for what is not lines; it takes only well-formed tuples."""
    bars = []
    for line in thing:
        bar = None
        if line[0] == "given" and line[1] in range(len(problem[1])):
            bar = problem[1][line[1]]
        if line[0] == "join" and line[2] in range(len(bars)) and line[3] in range(len(bars)):
            one, other = bars[line[2]], bars[line[3]]
            if line[1] in dict(one) and line[1] in dict(other):
                bar = plain_join(problem[0], line[1], one, other)
        if bar is None:
            return None
        bars.append(bar)
    return tuple(bars)


def plain_cover(bars, bar):
    return bool(bars) and all(i in dict(bar) and set(dict(bar)[i]) <= set(states) for i, states in bars[-1])


def some_bar(chance, sizes, most):
    places = [i for i, size in enumerate(sizes) if size > 1]
    chosen = sorted(chance.sample(places, min(len(places), chance.randint(0 if chance.random() < 0.02 else 1, most))))
    return tuple((i, tuple(sorted(chance.sample(range(sizes[i]), chance.randint(1, sizes[i] - 1))))) for i in chosen)


def some_problem(chance, most=5, product=40, bars=12):
    sizes = []
    whole = 1
    for _ in range(chance.randint(0, most)):
        size = chance.choice([1, 2, 2, 3, 4])
        if whole * size <= product:
            sizes.append(size)
            whole *= size
    return tuple(sizes), tuple(some_bar(chance, sizes, 3) for _ in range(chance.randint(0, bars)))


def some_lines(chance, problem, many):
    """Lines as far as chance finds some."""
    lines, bars = [], []
    for _ in range(many if problem[1] else 0):
        line = ("given", chance.randrange(len(problem[1])))
        if bars and problem[0] and chance.random() < 0.7:
            a, b = chance.randrange(len(bars)), chance.randrange(len(bars))
            line = ("join", chance.randrange(len(problem[0])), a, b)
        found = plain_bars(problem, [*lines, line])
        if found is not None:
            lines.append(line)
            bars.append(found[-1])
    return tuple(lines)


class KindsTest(unittest.TestCase):
    def test_right_problems(self):
        big = tuple([12, 12] + [1] * 22)
        for thing in [FEW, ODD, BARE, ((), ((),)), ((), ((), ())), ((1,), ()), ((1, 1), ((),)), (big, ()),
                      ((2,), (((0, (0,)),),) * 3), (big, (((0, tuple(range(11))), (1, (11,))),) * 200)]:
            self.assertIs(is_problem(thing), True, thing)

    def test_wrong_problems(self):
        bad_bars = [None, [], "bar", ((0,),), ((0, (0,), 1),), ((0, ()),), ((0, (0, 1, 2)),), ((0, (1, 0)),),
                    ((0, (0, 0)),), ((0, (3,)),), ((0, (-1,)),), ((0, [0]),), ([0, (0,)],), ((2, (0,)),), ((-1, (0,)),),
                    ((True, (0,)),), ((0, (True,)),), ((0, (False,)),), ((1, (0,)), (0, (0,))), ((0, (0,)), (0, (1,))),
                    ((0, (0,)), (0, (0,))), ((0, 0),), (0, (0,)), ((None, (0,)),), ((0, (None,)),), ((0, None),),
                    [(0, (0,))], ((0, (0,)), ()), ((1, (0, 1)),), ((0, "0"),)]
        for bar in bad_bars:
            self.assertIs(is_bar((3, 2), bar), False, bar)
            self.assertIs(is_problem(((3, 2), (bar,))), False, bar)
            self.assertIs(is_problem(((3, 2), (((0, (0,)),), bar))), False, bar)
        bad_sizes = [(0,), (-1,), (True,), (2, False), [2], (2, None), (None,), ("2",), ((2,),), (2, 0), 2, None, "2",
                     {2: 2}]
        for sizes in bad_sizes:
            self.assertIs(is_problem((sizes, ())), False, sizes)
        for thing in [((3, 2),), ((3, 2), (), ()), [(3, 2), ()], ((3, 2), []), ((3, 2), None), (((3, 2), ()),),
                      ((2,), ((0, (0,)),)), ((), ((0, (0,)),)), ((1,), (((0, (0,)),),))]:
            self.assertIs(is_problem(thing), False, thing)
        for thing in ANY_VALUES:
            self.assertIs(is_problem(thing), exactly(thing) == exactly(((), ())), thing)

    def test_bars(self):
        for bar in [(), ((0, (0,)),), ((0, (0, 2)),), ((1, (1,)),), ((0, (1, 2)), (1, (0,)))]:
            self.assertIs(is_bar((3, 2), bar), True)
        self.assertIs(is_bar((), ()), True)
        self.assertIs(is_bar((), ((0, (0,)),)), False)
        self.assertIs(is_bar((1,), ((0, (0,)),)), False)
        sizes = tuple([2] * 24)
        self.assertIs(is_bar(sizes, tuple((i, (0,)) for i in range(24))), True)
        self.assertIs(is_bar(sizes, tuple((i, (0,)) for i in range(25))), False)
        right = [exactly(bar) for bar in all_bars((3, 2))]
        for thing in wrong_ones([((0, (0, 1)), (1, (1,)))]) + ANY_VALUES:
            self.assertIs(is_bar((3, 2), thing), exactly(thing) in right, thing)

    def test_choices(self):
        right = all_choices(FEW)
        for thing in right:
            self.assertIs(is_choice_of(FEW, thing), True)
        for thing in wrong_ones(right) + [(3, 0), (0, 2), (-1, 0), (0,), (0, 0, 0), [0, 0], (0, True), (False, 0), ()]:
            self.assertIs(is_choice_of(FEW, thing), False, thing)
        for thing in ANY_VALUES:
            self.assertIs(is_choice_of(BARE, thing), exactly(thing) == exactly(()), thing)

    def test_meeting(self):
        for problem in (FEW, ODD):
            for choice in all_choices(problem):
                for bar in all_bars(problem[0]):
                    self.assertIs(does_meet(problem, choice, bar), met(choice, bar))
                self.assertIs(is_right_choice(problem, choice), choice in right_choices(problem))
        self.assertIs(does_meet(BARE, (), ()), True)
        self.assertIs(is_right_choice(BARE, ()), True)
        self.assertIs(is_right_choice(((), ((),)), ()), False)
        self.assertIs(is_right_choice(((3,), ((),)), (1,)), False)


class JoinTest(unittest.TestCase):
    def test_against_plain_words(self):
        for sizes in ((3, 2), (2, 1, 3), (4,), (2, 2, 2)):
            problem = (sizes, ())
            bars = all_bars(sizes)
            for i, one, other in itertools.product(range(len(sizes)), bars, bars):
                if i in dict(one) and i in dict(other):
                    found = join(problem, i, one, other)
                    self.assertEqual(found, plain_join(sizes, i, one, other), (sizes, i, one, other))
                    if found is not None:
                        self.assertIs(is_bar(sizes, found), True)
                        self.assertTrue(all(met(choice, one) or met(choice, other) for choice in all_choices(problem)
                                            if met(choice, found)))

    def test_a_term_that_is_dropped(self):
        self.assertEqual(join(((2,), ()), 0, ((0, (0,)),), ((0, (1,)),)), ())
        self.assertEqual(join(((3, 2), ()), 0, ((0, (0, 1)), (1, (0,))), ((0, (1, 2)),)), ((1, (0,)),))
        self.assertEqual(join(((3, 2), ()), 0, ((0, (0,)), (1, (0,))), ((0, (1,)), (1, (0,)))),
                         ((0, (0, 1)), (1, (0,))))

    def test_no_join(self):
        self.assertIsNone(join(((3, 2), ()), 0, ((0, (0,)), (1, (0,))), ((0, (1,)), (1, (1,)))))
        self.assertIsNone(join(((3, 4), ()), 0, ((0, (0,)), (1, (0, 1))), ((0, (0,)), (1, (2, 3)))))
        self.assertIsNotNone(join(((3, 2), ()), 1, ((0, (0,)), (1, (0,))), ((0, (0, 1)), (1, (1,)))))

    def test_a_bar_with_itself(self):
        bar = ((0, (0, 2)), (1, (0,)))
        self.assertEqual(join(FEW, 0, bar, bar), bar)
        self.assertEqual(join(FEW, 1, bar, bar), bar)


class LinesTest(unittest.TestCase):
    def test_lines(self):
        self.assertIs(are_lines(FEW, ()), True)
        self.assertEqual(bars_of(FEW, ()), ())
        self.assertIs(are_lines(FEW, LINES), True)
        self.assertEqual(bars_of(FEW, LINES)[2], ((0, (0, 1)),))
        self.assertIs(are_lines(FEW, (("given", 2), ("given", 2), ("join", 0, 0, 1), ("join", 1, 2, 2))), True)
        self.assertIs(are_lines(BARE, ()), True)
        self.assertIs(are_lines(BARE, (("given", 0),)), False)
        self.assertEqual(bars_of(((), ((),)), (("given", 0),)), ((),))

    def test_wrong_lines(self):
        start = (("given", 0), ("given", 1), ("given", 2))
        for line in [("given",), ("given", 3), ("given", -1), ("given", True), ("given", False), ("given", None),
                     ("given", "0"), ("given", 0, 0), ["given", 0], ("Given", 0), ("join",), ("join", 0, 0),
                     ("join", 0, 0, 1, 1), ["join", 0, 0, 1], ("join", 1, 0, 1), ("join", 1, 0, 2), ("join", 1, 2, 0),
                     ("join", 2, 0, 1), ("join", -1, 0, 1), ("join", 0, 0, 3), ("join", 0, 3, 0), ("join", 0, -1, 0),
                     ("join", 0, 0, -1), ("join", False, 0, 1), ("join", 0, False, 1), ("join", 0, 0, True),
                     ("join", None, 0, 1), ("join", 0, None, 1), ("join", 0, 0, (1,)), ("given", 0, 0, 1),
                     ("join", 0), None, (), "given", 0, ("cut", 0, 0, 1), (("given", 0),)]:
            self.assertIs(are_lines(FEW, (*start, line)), False, line)
            self.assertIs(are_lines(FEW, (*start, line, ("given", 0))), False, line)
        self.assertIs(are_lines(FEW, [*start]), False)
        self.assertIs(are_lines(FEW, ("given", 0)), False)
        # Both have a term there, but no join.
        no_join = ((3, 2), (((0, (0,)), (1, (0,))), ((0, (1,)), (1, (1,)))))
        self.assertIs(are_lines(no_join, (("given", 0), ("given", 1))), True)
        self.assertIs(are_lines(no_join, (("given", 0), ("given", 1), ("join", 0, 0, 1))), False)
        # A term that a join dropped is not there any more.
        dropped = ((2, 2), (((0, (0,)), (1, (0,))), ((0, (1,)),)))
        self.assertIs(are_lines(dropped, (("given", 0), ("given", 1), ("join", 0, 0, 1))), True)
        self.assertIs(are_lines(dropped, (("given", 0), ("given", 1), ("join", 0, 0, 1), ("join", 0, 2, 0))), False)
        for thing in ANY_VALUES:
            self.assertIs(are_lines(FEW, thing), exactly(thing) == exactly(()), thing)

    def test_changed_lines(self):
        for thing in wrong_ones([LINES]):
            found = are_lines(FEW, thing)
            self.assertIsInstance(found, bool)
            if found:
                self.assertEqual(bars_of(FEW, thing), plain_bars(FEW, thing))

    def test_against_plain_words(self):
        chance = random.Random(21)
        for _ in range(200):
            problem = some_problem(chance)
            lines = some_lines(chance, problem, 15)
            self.assertIs(are_lines(problem, lines), True)
            bars = bars_of(problem, lines)
            self.assertEqual(bars, plain_bars(problem, lines))
            for bar in bars:
                self.assertIs(is_bar(problem[0], bar), True)
                self.assertEqual(right_choices(problem, bar), [])
            for bar in [some_bar(chance, problem[0], 5) for _ in range(10)] + list(bars[-1:]) + [()]:
                self.assertIs(do_cover(problem, lines, bar), plain_cover(bars, bar))
            for other in self.shuffled(chance, lines, problem):
                self.assertIs(are_lines(problem, other), plain_bars(problem, other) is not None, (problem, other))

    def shuffled(self, chance, lines, problem):
        """Lines with one number exchanged, or in another order."""
        for _ in range(6 if lines else 0):
            at = chance.randrange(len(lines))
            line = lines[at]
            where = chance.randrange(1, len(line))
            changed = (*line[:where], chance.randint(-1, len(lines)), *line[where + 1:])
            yield (*lines[:at], changed, *lines[at + 1:])
            yield tuple(chance.sample(lines, len(lines)))

    def test_six_hundred_lines(self):
        lines = (("given", 2), *[("join", 0, k, k) for k in range(599)])
        self.assertEqual(bars_of(FEW, lines), (FEW[1][2],) * 600)
        self.assertIs(do_cover(FEW, lines, FEW[1][2]), True)
        self.assertIs(are_lines(FEW, (*lines, ("join", 0, 600, 600))), False)

    def test_covering(self):
        self.assertIs(do_cover(FEW, (), ()), False)
        self.assertIs(do_cover(FEW, (), ((0, (0,)),)), False)
        self.assertIs(do_cover(FEW, LINES[:3], ((0, (0, 1)),)), True)
        self.assertIs(do_cover(FEW, LINES[:3], ((0, (1,)),)), True)
        self.assertIs(do_cover(FEW, LINES[:3], ((0, (1,)), (1, (0,)))), True)
        self.assertIs(do_cover(FEW, LINES[:3], ((0, (1, 2)),)), False)
        self.assertIs(do_cover(FEW, LINES[:3], ((1, (0,)),)), False)
        self.assertIs(do_cover(FEW, LINES[:3], ()), False)
        # Only the last line counts.
        self.assertIs(do_cover(FEW, LINES, ((0, (1,)),)), False)
        self.assertIs(do_cover(FEW, LINES, ((0, (2,)), (1, (0,)))), True)
        nothing = ((2,), (((0, (0,)),), ((0, (1,)),)))
        for bar in all_bars((2,)):
            self.assertIs(do_cover(nothing, (("given", 0), ("given", 1), ("join", 0, 0, 1)), bar), True)


class JudgeTest(unittest.TestCase):
    def check(self, problem, bar):
        certificate = judge_bar(problem, bar)
        rights = right_choices(problem, bar)
        self.assertIs(bar_holds(problem, bar, certificate), True, (problem, bar))
        kind, found = certificate
        if rights:
            self.assertEqual(kind, "choice")
            self.assertIn(found, rights)
        else:
            self.assertEqual(kind, "lines")
            bars = plain_bars(problem, found)
            self.assertTrue(plain_cover(bars, bar), (problem, bar))
            self.assertLessEqual(len(found), len(problem[1]) + len(all_choices(problem)))
            self.assertEqual(len(set(found)), len(found))
        return kind

    def test_all_bars_of_small_problems(self):
        nothing = ((2, 2), tuple(((0, (one,)), (1, (other,))) for one in (0, 1) for other in (0, 1)))
        for problem in (FEW, ODD, BARE, nothing, ((), ((),)), ((1, 1), ()), ((1,), ((),)), ((3, 2), ()),
                        ((3, 2), ((),))):
            for bar in all_bars(problem[0]):
                self.check(problem, bar)
        self.assertEqual(judge_bar(BARE, ()), ("choice", ()))
        self.assertEqual(judge_bar(((), ((),)), ()), ("lines", (("given", 0),)))
        self.assertEqual(judge_bar(nothing, ())[0], "lines")

    def test_many_problems(self):
        chance = random.Random(22)
        kinds = []
        for _ in range(500):
            problem = some_problem(chance, bars=25)
            kinds += [self.check(problem, bar) for bar in [(), *[some_bar(chance, problem[0], 4) for _ in range(4)]]]
        self.assertGreater(min(kinds.count("choice"), kinds.count("lines")), 300)

    def test_limits(self):
        chance = random.Random(23)
        kinds = set()
        for many in (2, 3, 5, 9, 24):
            for density in (20, 200):
                sizes = self.sizes(many)
                problem = (sizes, tuple(some_bar(chance, sizes, 4) for _ in range(density)))
                problem = (sizes, tuple(bar for bar in problem[1] if bar != ()))
                kinds.add(self.check(problem, ()))
                wide = tuple((i, tuple(range(size - 1))) for i, size in enumerate(sizes) if size > 1)
                kinds.add(self.check(problem, wide))
        self.assertEqual(kinds, {"choice", "lines"})

    def sizes(self, many):
        """Sizes with a product of at most 1,000, and as many twelves as possible."""
        return tuple({2: [12, 12], 3: [12, 12, 6], 5: [4, 4, 4, 4, 3], 9: [2] * 9, 24: [2] * 9 + [1] * 15}[many])

    def test_one_leaf_for_each_choice(self):
        # Each choice has a bar of its own, so each leaf of the tree is needed.
        sizes = (10, 10, 10)
        choices = all_choices((sizes, ()))
        problem = (sizes, tuple(tuple((i, (state,)) for i, state in enumerate(choice)) for choice in choices))
        certificate = judge_bar(problem, ())
        self.assertLessEqual(len(certificate[1]), 1999)
        self.assertIs(bar_holds(problem, (), certificate), True)
        one_left = (sizes, problem[1][:567] + problem[1][568:])
        self.assertEqual(judge_bar(one_left, ()), ("choice", (5, 6, 7)))
        self.assertEqual(judge_bar(one_left, ((1, (0, 1, 2)),))[0], "lines")

    def test_other_right_certificates(self):
        self.assertIs(bar_holds(FEW, (), ("choice", (2, 1))), True)
        self.assertIs(bar_holds(FEW, ((1, (1,)),), ("choice", (2, 1))), True)
        self.assertIs(bar_holds(FEW, ((0, (1,)),), ("lines", (("given", 1),))), True)
        self.assertIs(bar_holds(FEW, ((0, (1,)),), ("lines", (("given", 2), ("given", 0), ("given", 1)))), True)
        self.assertIs(bar_holds(FEW, ((0, (1,)),), ("lines", LINES[:3])), True)
        self.assertIs(bar_holds(FEW, ((0, (2,)), (1, (0,))), ("lines", LINES)), True)

    def test_wrong_certificates(self):
        bar = ((0, (0, 1)),)
        for thing in [("choice", (2, 1)), ("choice", (0, 0)), ("choice", (0, 1)), ("choice", (1, 1)), ("lines", ()),
                      ("lines", LINES), ("lines", LINES[:2]), ("lines", LINES[:1]), ("lines", [*LINES[:3]]),
                      ["lines", LINES[:3]], ("lines", LINES[:3], ()), ("lines",), ("Lines", LINES[:3]),
                      ("choice", LINES[:3]), ("none", LINES[:3]), ("lines", None), (LINES[:3],), LINES[:3]]:
            self.assertIs(bar_holds(FEW, bar, thing), False, thing)
        self.assertIs(bar_holds(FEW, bar, ("lines", LINES[:3])), True)
        for thing in [("choice", (2, 0)), ("choice", (2, True)), ("choice", [2, 1]), ("choice", (2, 1, 0)),
                      ("choice", (2,)), ("choice", (2, 1), ()), ["choice", (2, 1)], ("choice",), ("choice", None),
                      ("choice", (2, 1), (), ()), ("lines", (2, 1)), ("right", (2, 1)), (2, 1), ("choice", (3, 1)),
                      ("choice", (-1, 1)), ("choice", "21")]:
            self.assertIs(bar_holds(FEW, (), thing), False, thing)
        self.assertIs(bar_holds(FEW, ((1, (0,)),), ("choice", (2, 1))), False)
        self.assertIs(bar_holds(BARE, (), ("lines", ())), False)

    def test_changed_certificates(self):
        for problem, bar in ((FEW, ()), (FEW, ((0, (0, 1)),))):
            right = judge_bar(problem, bar)
            for thing in wrong_ones([right]):
                found = bar_holds(problem, bar, thing)
                self.assertIsInstance(found, bool)
                if found and right[0] == "choice":
                    self.assertIn(thing, [("choice", choice) for choice in right_choices(problem, bar)])
                elif found:
                    self.assertEqual((thing[0], len(thing)), ("lines", 2))
                    self.assertTrue(plain_cover(plain_bars(problem, thing[1]), bar))

    def test_never_both_kinds(self):
        chance = random.Random(24)
        for _ in range(100):
            problem = some_problem(chance, bars=20)
            bar = some_bar(chance, problem[0], 3)
            kind = judge_bar(problem, bar)[0]
            for choice in all_choices(problem):
                self.assertIs(bar_holds(problem, bar, ("choice", choice)), choice in right_choices(problem, bar))
            if kind == "choice":
                for _ in range(5):
                    self.assertIs(bar_holds(problem, bar, ("lines", some_lines(chance, problem, 15))), False)


class BadArgumentsTest(unittest.TestCase):
    BAR = ((0, (0,)),)
    CALLS = (
        (is_choice_of, ((0, 0),)), (does_meet, ((0, 0), BAR)), (is_right_choice, ((0, 0),)), (join, (0, BAR, BAR)),
        (are_lines, (LINES,)), (bars_of, (LINES,)), (do_cover, (LINES, BAR)), (judge_bar, (BAR,)),
        (bar_holds, (BAR, None)),
    )

    def check_error(self, kind, thing, call, *arguments):
        with self.assertRaises(kind) as caught:
            call(*arguments)
        self.assertIs(caught.exception.thing, thing)

    def test_problems(self):
        wrong = [None, [*FEW], FEW[:1], (*FEW, ()), ((3, 0), ()), ((3, True), ()), ((3, 2), [()]), ((3, 2), (None,))]
        for call, rest in self.CALLS:
            for thing in wrong + [value for value in ANY_VALUES if exactly(value) != exactly(((), ()))]:
                self.check_error(BadProblem, thing, call, thing, *rest)
                self.check_error(BadProblem, thing, call, thing, *[None for _ in rest])

    def test_sizes(self):
        for thing in [None, [3, 2], (3, 0), (3, True), (3, -1), 3, "32", (3, 2.5), FEW, (FEW[0],)]:
            self.check_error(BadProblem, thing, is_bar, thing, ())
            self.check_error(BadProblem, thing, is_bar, thing, None)
        for thing in ANY_VALUES:
            if exactly(thing) not in (exactly(()), exactly(tuple(range(1, 3001)))):
                self.check_error(BadProblem, thing, is_bar, thing, ())

    def test_choices_then_bars(self):
        for thing in ANY_VALUES + [(3, 0), (0, 2), (True, 0), [0, 0], (0,)]:
            self.check_error(BadChoice, thing, does_meet, FEW, thing, ())
            self.check_error(BadChoice, thing, does_meet, FEW, thing, None)
            self.check_error(BadChoice, thing, is_right_choice, FEW, thing)

    def test_bars(self):
        for thing in ANY_VALUES + [((0, ()),), ((1, (0, 1)),), ((0, (True,)),), [(0, (0,))], ((1, (0,)), (0, (0,)))]:
            if exactly(thing) != exactly(()):
                self.check_error(BadBar, thing, does_meet, FEW, (0, 0), thing)
                self.check_error(BadBar, thing, do_cover, FEW, LINES, thing)
                self.check_error(BadBar, thing, do_cover, FEW, (), thing)
                self.check_error(BadBar, thing, judge_bar, FEW, thing)
                self.check_error(BadBar, thing, bar_holds, FEW, thing, None)
                self.check_error(BadBar, thing, bar_holds, FEW, thing, ("choice", (2, 1)))

    def test_lines_then_bars(self):
        for thing in ANY_VALUES + [[*LINES], LINES[1:], (*LINES, ("given", 3)), (("join", 0, 0, 0),)]:
            if exactly(thing) != exactly(()):
                self.check_error(BadLines, thing, bars_of, FEW, thing)
                self.check_error(BadLines, thing, do_cover, FEW, thing, ())
                self.check_error(BadLines, thing, do_cover, FEW, thing, None)

    def test_join(self):
        bar, other, none = ((0, (0,)),), ((0, (1,)), (1, (0,))), ((1, (0,)),)
        for thing in [2, -1, True, False, None, "0", (0,), 10 ** 39] + ANY_VALUES:
            if exactly(thing) not in (exactly(0), exactly(1)):
                self.check_error(BadNumber, thing, join, FEW, thing, bar, bar)
                self.check_error(BadNumber, thing, join, FEW, thing, None, None)
        self.check_error(BadNumber, 0, join, BARE, 0, (), ())
        for thing in ANY_VALUES + [none, ((0, (0, 1, 2)),), ((0, (True,)),), [(0, (0,))]]:
            self.check_error(BadBar, thing, join, FEW, 0, thing, bar)
            self.check_error(BadBar, thing, join, FEW, 0, other, thing)
            self.check_error(BadBar, thing, join, FEW, 0, thing, ["bad"])
            self.check_error(BadBar, thing, join, FEW, 0, thing, none)
        # The second one is not a bar, but the first one has no term there, and comes first.
        bad = ["bad"]
        self.check_error(BadBar, none, join, FEW, 0, none, bad)
        self.check_error(BadBar, bad, join, FEW, 0, bad, none)
        self.check_error(BadBar, bar, join, FEW, 1, other, bar)


if __name__ == "__main__":
    unittest.main()
