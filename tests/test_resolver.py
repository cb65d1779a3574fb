import itertools
import random
import time
import unittest

from tests.judges import agrees_with_all_choices, is_first_certificate
from tests.samples import ANY_VALUES, changed, exactly, wrong_ones
from tests.test_problems import all_bars, all_choices, right_choices, some_bar, some_lines, some_problem
from versionjudge.errors import BadProblem
from versionjudge.resolver import first_choice, plain_first, possible, resolve, resolve_holds

FEW = ((3, 2), (((0, (0,)),), ((0, (1,)),), ((0, (2,)), (1, (0,)))))
LINES = (("given", 0), ("given", 1), ("join", 0, 0, 1), ("given", 2))
RIGHT = ("choice", (2, 1), LINES, (2, 3))
NOTHING = ((2,), (((0, (0,)),), ((0, (1,)),)))
NONE = ("none", (("given", 0), ("given", 1), ("join", 0, 0, 1)))


def pegs_and_holes(pegs, holes):
    """A problem in which each peg is put into a hole, and no two into the same one."""
    pairs = itertools.combinations(range(pegs), 2)
    bars = tuple(((a, (hole,)), (b, (hole,))) for a, b in pairs for hole in range(holes))
    return ((holes,) * pegs, bars)


def chain(many, last):
    """A problem of two states each, in which each variable has the state 1 if the one before it has it."""
    begin = ((0, (0,)),)
    links = [((i, (1,)), (i + 1, (0,))) for i in range(many - 1)]
    return ((2,) * many, (begin, *links, *last))


def limit_problems():
    chance = random.Random(71)
    sizes = [(10, 10, 10), (12, 12, 6), (2,) * 9 + (1,) * 15, (1,) * 14 + (4, 1, 5, 1, 2, 1, 5, 1, 5, 1),
             (12,) + (1,) * 23]
    for few in sizes:
        for most in (1, 2, 4):
            yield few, tuple(bar for bar in [some_bar(chance, few, most) for _ in range(200)] if bar != ())
        yield few, ()
        # Only the last choice of all is right, or not even this one.
        lows = [((i, tuple(range(size - 1))),) for i, size in enumerate(few) if size > 1]
        yield few, tuple(lows)
        yield few, (*lows, tuple((i, (size - 1,)) for i, size in enumerate(few) if size > 1))
    yield pegs_and_holes(6, 3)
    yield pegs_and_holes(9, 2)
    yield pegs_and_holes(4, 4)
    yield pegs_and_holes(3, 10)
    yield chain(9, [((8, (1,)),)])
    yield chain(9, [])
    yield chain(9, [((8, (1,)), (0, (1,)))[::-1]])
    # A bar for each choice but the last one, and with the last one.
    for many in (999, 1000):
        choices = itertools.islice(itertools.product(range(10), repeat=3), many)
        yield (10, 10, 10), tuple(tuple((i, (state,)) for i, state in enumerate(choice)) for choice in choices)


class FirstTest(unittest.TestCase):
    def check(self, problem):
        certificate = resolve(problem)
        rights = right_choices(problem)
        self.assertTrue(agrees_with_all_choices(problem, certificate), problem)
        self.assertIs(resolve_holds(problem, certificate), True, problem)
        first = rights[0] if rights else None
        self.assertEqual(exactly(first_choice(problem)), exactly(first))
        self.assertEqual(exactly(plain_first(problem)), exactly(first))
        wanted = tuple(tuple(sorted({right[i] for right in rights})) for i in range(len(problem[0])))
        self.assertEqual(exactly(possible(problem)), exactly(wanted))
        return certificate[0]

    def test_without_variables(self):
        for bars, kind in (((), "choice"), (((),), "none"), (((), ()), "none")):
            self.assertEqual(self.check(((), bars)), kind)
        self.assertEqual(resolve(((), ())), ("choice", (), (), ()))
        self.assertEqual(resolve(((), ((),))), ("none", (("given", 0),)))
        self.assertEqual(possible(((), ())), ())
        self.assertEqual(possible(((), ((),))), ())

    def test_without_bars_and_with_the_bar_of_no_terms(self):
        for sizes in ((1,), (2,), (1, 1), (3, 1, 2)):
            self.assertEqual(self.check((sizes, ())), "choice")
            self.assertEqual(resolve((sizes, ())), ("choice", (0,) * len(sizes), (), (None,) * len(sizes)))
            self.assertEqual(possible((sizes, ())), tuple(tuple(range(size)) for size in sizes))
            self.assertEqual(self.check((sizes, ((),))), "none")
            self.assertEqual(possible((sizes, ((),))), ((),) * len(sizes))

    def test_all_problems_of_two_bars(self):
        for sizes in ((2, 2), (1, 3), (3, 1)):
            for bars in itertools.product(all_bars(sizes), repeat=2):
                self.check((sizes, bars))

    def test_many_problems(self):
        chance = random.Random(72)
        kinds = [self.check(some_problem(chance, bars=25)) for _ in range(500)]
        self.assertGreater(min(kinds.count("choice"), kinds.count("none")), 80)

    def test_the_first_of_several(self):
        self.assertEqual(first_choice(((2, 2), (((0, (0,)), (1, (0,))),))), (0, 1))
        self.assertEqual(first_choice(((2, 2), (((0, (0,)),),))), (1, 0))
        self.assertEqual(possible(((2, 2), (((0, (0,)), (1, (0,))),))), ((0, 1), (0, 1)))
        self.assertEqual(possible(((3, 2), (((0, (1,)),), ((0, (2,)), (1, (1,)))))), ((0, 2), (0, 1)))

    def test_limits(self):
        kinds = []
        for problem in limit_problems():
            begin = time.monotonic()
            kinds.append(self.check(problem))
            self.assertLess(time.monotonic() - begin, 10, problem[0])
        self.assertGreater(min(kinds.count("choice"), kinds.count("none")), 10)


class JudgeTest(unittest.TestCase):
    def check(self, problem, thing):
        wanted = is_first_certificate(problem, thing)
        self.assertIs(resolve_holds(problem, thing), wanted, (problem, thing))
        return wanted

    def test_the_stated_ones(self):
        self.assertIs(resolve_holds(FEW, RIGHT), True)
        self.assertIs(resolve_holds(NOTHING, NONE), True)
        # Lines and ends that the resolver does not make are right as well.
        more = (("given", 2), *LINES[:2], ("given", 2), ("join", 0, 1, 2))
        self.assertIs(resolve_holds(FEW, ("choice", (2, 1), more, (4, 0))), True)
        self.assertIs(resolve_holds(FEW, ("choice", (2, 1), more, (4, 3))), True)
        self.assertIs(resolve_holds(NOTHING, ("none", (("given", 1), ("given", 0), ("join", 0, 0, 1)))), True)

    def test_wrong_certificates(self):
        for thing in [
            ("choice", (2, 1), LINES, (1, 3)), ("choice", (2, 1), LINES, (2, 2)), ("choice", (2, 1), LINES, (3, 2)),
            ("choice", (2, 1), LINES, (2, None)), ("choice", (2, 1), LINES, (None, 3)), ("choice", (2, 1), LINES, (2,)),
            ("choice", (2, 1), LINES, (2, 3, None)), ("choice", (2, 1), LINES, (2, 4)), ("choice", (2, 1), LINES, ()),
            ("choice", (2, 1), LINES, (-2, 3)), ("choice", (2, 1), LINES, (2, -1)), ("choice", (2, 1), LINES, [2, 3]),
            ("choice", (2, 1), [*LINES], (2, 3)), ("choice", [2, 1], LINES, (2, 3)), ["choice", (2, 1), LINES, (2, 3)],
            ("choice", (2, 1), LINES[:3], (2, 3)), ("choice", (2, 1), LINES[1:], (2, 3)), ("choice", (2, 1), (), ()),
            ("choice", (2, True), LINES, (2, 3)), ("choice", (2, 0), LINES, (2, None)), ("choice", (2, 1)),
            ("choice", (2, 1), LINES), ("choice", (2, 1), LINES, (2, 3), ()), ("none", (2, 1), LINES, (2, 3)),
            ("none", LINES), ("none", LINES[:3]), ("none", ()), ("none",), ("lines", LINES), ("Choice", *RIGHT[1:]),
            ("choice", (2, 1), LINES[::-1], (2, 3)),
            ("choice", (2, 1), (LINES[0], LINES[2], LINES[1], LINES[3]), (2, 3)),
        ]:
            self.assertIs(self.check(FEW, thing), False)
        for thing in [
            ("none", NONE[1][:2]), ("none", NONE[1][:1]), ("none", NONE[1], ()), ("none", ()), ["none", NONE[1]],
            ("none", [*NONE[1]]), ("choice", NONE[1]), ("lines", NONE[1]), ("choice", (0,), NONE[1], (None,)),
            ("none", (*NONE[1], ("given", 0))), ("none", NONE[1], (), ()), (NONE[1],), NONE[1], "none",
        ]:
            self.assertIs(self.check(NOTHING, thing), False)
        self.assertIs(resolve_holds(((), ()), ("choice", ())), False)
        self.assertIs(resolve_holds(((), ()), ("choice", (), (), ())), True)
        self.assertIs(resolve_holds(((), ()), ("choice", (), (), (None,))), False)
        self.assertIs(resolve_holds(((2,), ()), ("choice", (0,), (), (False,))), False)
        self.assertIs(resolve_holds(((2,), ()), ("choice", (False,), (), (None,))), False)

    def test_an_end_covers_what_differs_before_it(self):
        # The line about the second variable holds only for the state 1 of the first one.
        problem = ((2, 2), (((0, (0,)),), ((0, (1,)), (1, (0,)))))
        right = ("choice", (1, 1), (("given", 0), ("given", 1)), (0, 1))
        self.assertIs(resolve_holds(problem, right), True)
        for ends in ((1, 0), (0, 0), (1, 1), (0, True), (False, 1)):
            self.assertIs(resolve_holds(problem, (*right[:3], ends)), False, ends)
        # A later choice that is right, with lines that rule out too little.
        free = ((3,), (((0, (1,)),),))
        self.assertIs(resolve_holds(free, ("choice", (0,), (), (None,))), True)
        self.assertIs(resolve_holds(free, ("choice", (2,), (("given", 0),), (0,))), False)
        # A variable with one state has no term, whatever its place.
        odd = ((1, 2, 1), (((1, (0,)),),))
        self.assertIs(resolve_holds(odd, ("choice", (0, 1, 0), (("given", 0),), (None, 0, None))), True)

    def test_changed_certificates(self):
        taken = [0, 0]
        for problem in (FEW, NOTHING, ((2, 1, 2), (((0, (0,)), (2, (0,))), ((0, (0,)), (2, (1,))))), ((), ())):
            for thing in changed(resolve(problem)) + wrong_ones([RIGHT, NONE]):
                taken[self.check(problem, thing)] += 1
        self.assertGreater(min(taken), 10)

    def test_exchanged_parts(self):
        chance = random.Random(73)
        taken = [0, 0]
        for _ in range(150):
            problem = some_problem(chance, bars=12)
            certificate = resolve(problem)
            self.assertIs(self.check(problem, certificate), True)
            for thing in self.exchanged(chance, problem, certificate):
                taken[self.check(problem, thing)] += 1
        self.assertGreater(min(taken), 50)

    def exchanged(self, chance, problem, certificate):
        choices = all_choices(problem)
        for choice in chance.sample(choices, min(4, len(choices))):
            yield (certificate[0], choice, *certificate[2:])
        yield ("none", some_lines(chance, problem, 15))
        if certificate[0] == "none":
            lines = certificate[1]
            for at in range(len(lines)):
                yield ("none", lines[:at] + lines[at + 1:])
            yield ("choice", choices[0], lines, tuple(None for _ in problem[0]))
            return
        _, choice, lines, ends = certificate
        yield ("choice", choice, lines[:-1], ends)
        yield ("choice", choice, lines[1:], tuple(end and end - 1 for end in ends))
        for i, end in enumerate(ends):
            for other in (None, 0, len(lines) - 1, len(lines), end and end - 1, end and end + 1):
                yield ("choice", choice, lines, (*ends[:i], other, *ends[i + 1:]))

    def test_never_both_kinds(self):
        chance = random.Random(74)
        for _ in range(100):
            problem = some_problem(chance, bars=15)
            certificate = resolve(problem)
            for choice in all_choices(problem):
                thing = ("choice", choice, *certificate[2:])
                if certificate[0] == "none":
                    thing = ("choice", choice, certificate[1], tuple(state and 0 for state in choice))
                self.assertIs(resolve_holds(problem, thing), thing == certificate)


class BadArgumentsTest(unittest.TestCase):
    def test_problems(self):
        wrong = [None, [*FEW], FEW[:1], (*FEW, ()), ((3, 0), ()), ((3, True), ()), ((3, 2), [()]), ((3, 2), (None,)),
                 ((3, 2), (((0, (0, 1, 2)),),))]
        for thing in wrong + [value for value in ANY_VALUES if exactly(value) != exactly(((), ()))]:
            for call, rest in ((resolve, ()), (resolve_holds, (RIGHT,)), (resolve_holds, (None,)), (first_choice, ()),
                               (plain_first, ()), (possible, ())):
                with self.assertRaises(BadProblem) as caught:
                    call(thing, *rest)
                self.assertIs(caught.exception.thing, thing)


if __name__ == "__main__":
    unittest.main()
