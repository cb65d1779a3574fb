import itertools
import unittest

from tests.samples import ANY_VALUES, exactly, wrong_ones
from versionjudge.errors import BadRange, BadVersion
from versionjudge.ranges import (
    cut, every, has, is_range, joined, judge_same, judge_within, least_in, only, range_text, same_holds, within_holds,
    without,
)
from versionjudge.versions import is_version, next_version

FIRST, ONE, TWO, THREE = (0, 0, 0, 0, 0), (1, 0, 0, 3, 0), (2, 0, 0, 3, 0), (3, 0, 0, 3, 0)
ALL = ((FIRST, None),)
NINE = 999999999

# Versions that follow each other are among them, so that ranges with single versions arise.
BORDERS = [FIRST, (0, 0, 0, 0, 1), (0, 9, 0, 2, 5), ONE, (1, 0, 1, 0, 0), TWO]
POOL = sorted(set(BORDERS + [next_version(border) for border in BORDERS] + [
    (0, 0, 0, 3, 0), (0, 9, 0, 2, 4), (0, 9, 0, 3, 0), (1, 0, 0, 2, 9), (1, 9, 9, 3, 0), (2, 0, 0, 2, NINE),
    (NINE, NINE, NINE, 3, 0)]))


def ranges_of(borders):
    """All ranges with borders among these."""
    found = []
    for many in range(len(borders) + 1):
        for turns in itertools.combinations(borders, many):
            ends = list(turns) + [None] * (many % 2)
            found.append(tuple(zip(ends[::2], ends[1::2])))
    return found


def member(span, version):
    for low, high in span:
        if low <= version and (high is None or version < high):
            return True
    return False


SPANS = ranges_of(BORDERS)
FEW_SPANS = ranges_of(BORDERS[1:5])


class RangesTest(unittest.TestCase):
    def test_right_ranges(self):
        right = [
            (), ALL, ((ONE, TWO),), ((ONE, None),), ((FIRST, ONE),), ((FIRST, (0, 0, 0, 0, 1)),),
            ((FIRST, ONE), (TWO, THREE)), ((FIRST, ONE), (TWO, None)),
            ((ONE, (1, 0, 1, 0, 0)), ((1, 0, 1, 0, 1), None)),
            tuple(((n, 0, 0, 3, 0), (n, 5, 0, 3, 0)) for n in range(20)),
        ]
        for span in right + SPANS:
            self.assertIs(is_range(span), True, span)

    def test_wrong_ranges(self):
        wrong = [
            ((ONE, ONE),), ((TWO, ONE),), ((FIRST, FIRST),), ((ONE, TWO), (TWO, None)), ((ONE, TWO), (TWO, THREE)),
            ((ONE, THREE), (TWO, None)), ((TWO, THREE), (FIRST, ONE)), ((TWO, None), (FIRST, ONE)),
            ((ONE, None), (TWO, THREE)), ((ONE, None), (TWO, None)), ((None, ONE),), ((None, None),),
            ((ONE, TWO), (ONE, TWO)), ((ONE, TWO), ()), ((ONE,),), ((ONE, TWO, THREE),), (ONE, TWO), ONE, None, [],
            [(ONE, TWO)], ([ONE, TWO],), (([*ONE], TWO),), ((ONE, [*TWO]),), ((ONE, TWO), [THREE, None]), {ONE: TWO},
            ((ONE, False),), ((ONE, 0),), ((ONE, "None"),), ((True, None),), (((True, 0, 0, 3, 0), TWO),),
            ((ONE, (2, 0, False, 3, 0)),), ((ONE, (2, 0, 0, 3, 1)),), ((ONE, (2, 0, 0, 4, 0)),),
            (((-1, 0, 0, 3, 0), None),), ((ONE, ()),), (((), ONE),), "*", ">=1.0.0",
            ((FIRST, ONE), (TWO, (2, 0, 0, 3, 0)), (THREE, None)),
        ]
        for thing in wrong:
            self.assertIs(is_range(thing), False, thing)
        for thing in ANY_VALUES:
            self.assertIs(is_range(thing), exactly_empty(thing), thing)

    def test_all(self):
        self.assertEqual(every(), ALL)

    def test_only(self):
        for version in POOL:
            self.assertIs(is_range(only(version)), True)
            self.assertEqual([other for other in POOL if member(only(version), other)], [version])
        self.assertEqual(only((1, 2, 3, 1, 4)), (((1, 2, 3, 1, 4), (1, 2, 3, 1, 5)),))
        self.assertEqual(only(ONE), ((ONE, (1, 0, 1, 0, 0)),))

    def test_has(self):
        for span in SPANS:
            for version in POOL:
                self.assertIs(has(span, version), member(span, version), (span, version))

    def test_least(self):
        self.assertIsNone(least_in(()))
        self.assertEqual(least_in(ALL), FIRST)
        self.assertEqual(least_in(((ONE, TWO), (THREE, None))), ONE)
        self.assertEqual(least_in(((TWO, None),)), TWO)

    def check_error(self, kind, thing, call, *arguments):
        with self.assertRaises(kind) as caught:
            call(*arguments)
        self.assertIs(caught.exception.thing, thing)

    def test_bad_ranges_and_versions(self):
        wrong = [thing for thing in wrong_ones([((ONE, TWO), (THREE, None))]) if not is_range(thing)]
        self.assertGreater(len(wrong), 100)
        for thing in wrong:
            self.check_error(BadRange, thing, least_in, thing)
            self.check_error(BadRange, thing, range_text, thing)
            self.check_error(BadRange, thing, has, thing, ONE)
            self.check_error(BadRange, thing, has, thing, None)
        for thing in wrong_ones([ONE]):
            if not is_version(thing):
                self.check_error(BadVersion, thing, has, ALL, thing)
                self.check_error(BadVersion, thing, only, thing)

    def test_the_earlier_bad_range(self):
        empty, turned = ((ONE, ONE),), [ALL]
        for call in (joined, cut, without, judge_within, judge_same):
            self.check_error(BadRange, empty, call, empty, turned)
            self.check_error(BadRange, turned, call, turned, empty)
            self.check_error(BadRange, empty, call, empty, ALL)
            self.check_error(BadRange, empty, call, (), empty)
            for thing in ANY_VALUES:
                if not exactly_empty(thing):
                    self.check_error(BadRange, thing, call, thing, ALL)
                    self.check_error(BadRange, thing, call, ALL, thing)
        for call in (within_holds, same_holds):
            self.check_error(BadRange, empty, call, empty, turned, None)
            self.check_error(BadRange, turned, call, turned, ALL, ("within",))
            self.check_error(BadRange, turned, call, ALL, turned, ("same",))


def exactly_empty(thing):
    return isinstance(thing, tuple) and thing == ()


class OperationsTest(unittest.TestCase):
    def check(self, call, one, other, wanted):
        span = call(one, other)
        self.assertIs(is_range(span), True, span)
        for version in POOL:
            expected = wanted(member(one, version), member(other, version))
            self.assertIs(member(span, version), expected, (call.__name__, one, other, version))

    def test_against_membership(self):
        for one in SPANS:
            for other in SPANS:
                self.check(joined, one, other, lambda a, b: a or b)
                self.check(cut, one, other, lambda a, b: a and b)
                self.check(without, one, other, lambda a, b: a and not b)

    def test_one_form(self):
        self.assertEqual(joined(((ONE, TWO),), ((TWO, THREE),)), ((ONE, THREE),))
        self.assertEqual(joined(((ONE, TWO),), ((TWO, None),)), ((ONE, None),))
        self.assertEqual(joined(((FIRST, ONE), (TWO, None)), ((ONE, TWO),)), ALL)
        self.assertEqual(joined(((TWO, THREE),), ((FIRST, ONE),)), ((FIRST, ONE), (TWO, THREE)))
        self.assertEqual(joined((), ()), ())
        self.assertEqual(cut(((ONE, TWO),), ((TWO, None),)), ())
        self.assertEqual(cut(ALL, ((ONE, TWO),)), ((ONE, TWO),))
        self.assertEqual(without(ALL, ALL), ())
        self.assertEqual(without(ALL, ((ONE, TWO),)), ((FIRST, ONE), (TWO, None)))
        self.assertEqual(without(((ONE, THREE),), ((TWO, None),)), ((ONE, TWO),))

    def test_twenty_pairs(self):
        one = tuple(((n, 0, 0, 3, 0), (n, 5, 0, 3, 0)) for n in range(20))
        other = tuple(((n, 5, 0, 3, 0), (n + 1, 0, 0, 3, 0)) for n in range(20))
        self.assertEqual(joined(one, other), (((0, 0, 0, 3, 0), (20, 0, 0, 3, 0)),))
        self.assertEqual(cut(one, other), ())
        self.assertEqual(without(one, other), one)


class CertificatesTest(unittest.TestCase):
    def check(self, judge, holds, word, against):
        """against: whether a version that is in one, and in other, speaks against the word."""
        for one in SPANS:
            for other in FEW_SPANS:
                least = min((version for version in POOL if against(member(one, version), member(other, version))),
                            default=None)
                right = (word,) if least is None else ("version", least)
                self.assertEqual(judge(one, other), right, (one, other))
                self.assertIs(holds(one, other, judge(one, other)), True)
                for thing in [(word,), *[("version", version) for version in POOL]]:
                    self.assertIs(holds(one, other, thing), thing == right, (one, other, thing))

    def test_within(self):
        self.check(judge_within, within_holds, "within", lambda a, b: a and not b)

    def test_same(self):
        self.check(judge_same, same_holds, "same", lambda a, b: a != b)

    def test_nothing_else_is_a_certificate(self):
        cases = [
            (within_holds, ((ONE, TWO),), ALL, ("within",)), (within_holds, (), (), ("within",)),
            (within_holds, ((ONE, None),), ((TWO, None),), ("version", ONE)),
            (within_holds, ALL, (), ("version", FIRST)),
            (same_holds, ((ONE, TWO),), ((ONE, TWO),), ("same",)), (same_holds, (), (), ("same",)),
            (same_holds, ((TWO, None),), ((ONE, None),), ("version", ONE)), (same_holds, (), ALL, ("version", FIRST)),
        ]
        others = [
            ("within",), ("same",), ("alike",), ("version",), ("version", ONE), ("version", FIRST), ("version", TWO),
            ("version", None), ("version", THREE), ("version", (1, 0, 0, 3, 1)), ["within"], ["version", ONE],
            ("version", list(ONE)), ("version", (True, 0, 0, 3, 0)), ("version", (1, False, 0, 3, 0)),
            ("version", (False,) * 5), ("version", ONE, ONE), ("version", ONE, None), ("within", ONE), ("same", ONE),
            ("within", ()), ("same", "same"), (("within",),), (("version", ONE),), ("Version", ONE), ONE, "within",
            "same",
        ]
        for holds, one, other, right in cases:
            self.assertIs(holds(one, other, right), True)
            for thing in others + wrong_ones([right]):
                self.assertIs(holds(one, other, thing), exactly(thing) == exactly(right), (one, other, thing))

    def test_a_later_version_is_none(self):
        self.assertIs(within_holds(((ONE, None),), (), ("version", (1, 0, 1, 0, 0))), False)
        self.assertIs(same_holds(((ONE, None),), (), ("version", TWO)), False)
        self.assertIs(within_holds(((ONE, TWO),), ((ONE, None),), ("version", ONE)), False)
        self.assertEqual(judge_same(((ONE, TWO),), ((ONE, None),)), ("version", TWO))
        self.assertEqual(judge_within(((ONE, TWO),), ((ONE, None),)), ("within",))


if __name__ == "__main__":
    unittest.main()
