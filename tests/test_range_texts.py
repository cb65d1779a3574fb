import itertools
import unittest

from tests.grammar import RANGE, spoiled, wrong_at
from tests.samples import ANY_VALUES
from versionjudge.errors import BadText
from versionjudge.ranges import has, is_range, range_text, read_range
from versionjudge.versions import is_version, version_text

FIRST, ONE, TWO, THREE = (0, 0, 0, 0, 0), (1, 0, 0, 3, 0), (2, 0, 0, 3, 0), (3, 0, 0, 3, 0)
FEW = [thing for thing in itertools.product(range(4), range(4), range(5), range(4), range(3)) if is_version(thing)]


def up_to_caret(version):
    a, b, c = version[:3]
    if a > 0:
        return (a + 1, 0, 0, 0, 0)
    return (0, b + 1, 0, 0, 0) if b > 0 else (0, 0, c + 1, 0, 0)


MEANINGS = {
    ">=": lambda version, v: version >= v,
    ">": lambda version, v: version > v,
    "<=": lambda version, v: version <= v,
    "<": lambda version, v: version < v,
    "=": lambda version, v: version == v,
    "^": lambda version, v: v <= version < up_to_caret(v),
    "~": lambda version, v: v <= version < (v[0], v[1] + 1, 0, 0, 0),
}


class ReadRangeTest(unittest.TestCase):
    def test_each_sign(self):
        texts = {
            "*": ((FIRST, None),), ">=1.0.0": ((ONE, None),), ">1.0.0": (((1, 0, 1, 0, 0), None),),
            ">1.0.0-rc.1": (((1, 0, 0, 2, 2), None),), "<=1.0.0": ((FIRST, (1, 0, 1, 0, 0)),),
            "<=1.0.0-rc.1": ((FIRST, (1, 0, 0, 2, 2)),), "<1.0.0": ((FIRST, ONE),),
            "<1.0.0-rc.1": ((FIRST, (1, 0, 0, 2, 1)),),
            "=1.0.0": ((ONE, (1, 0, 1, 0, 0)),), "=1.0.0-beta.2": (((1, 0, 0, 1, 2), (1, 0, 0, 1, 3)),),
            ">=0.0.0-alpha.0": ((FIRST, None),), "<0.0.0-alpha.0": (), "<=0.0.0-alpha.0": ((FIRST, (0, 0, 0, 0, 1)),),
            "^1.2.3": (((1, 2, 3, 3, 0), (2, 0, 0, 0, 0)),), "^1.0.0": ((ONE, (2, 0, 0, 0, 0)),),
            "^0.2.3": (((0, 2, 3, 3, 0), (0, 3, 0, 0, 0)),), "^0.2.0": (((0, 2, 0, 3, 0), (0, 3, 0, 0, 0)),),
            "^0.0.3": (((0, 0, 3, 3, 0), (0, 0, 4, 0, 0)),), "^0.0.0": (((0, 0, 0, 3, 0), (0, 0, 1, 0, 0)),),
            "^1.0.0-beta.2": (((1, 0, 0, 1, 2), (2, 0, 0, 0, 0)),), "^0.0.0-alpha.0": ((FIRST, (0, 0, 1, 0, 0)),),
            "~1.2.3": (((1, 2, 3, 3, 0), (1, 3, 0, 0, 0)),), "~0.0.3": (((0, 0, 3, 3, 0), (0, 1, 0, 0, 0)),),
            "~0.2.0-rc.1": (((0, 2, 0, 2, 1), (0, 3, 0, 0, 0)),), "~0.0.0": (((0, 0, 0, 3, 0), (0, 1, 0, 0, 0)),),
        }
        for text, span in texts.items():
            self.assertEqual(read_range(text), span, text)

    def test_each_sign_version_by_version(self):
        chosen = [FIRST, (0, 0, 0, 3, 0), (0, 0, 2, 1, 1), (0, 1, 0, 3, 0), (0, 2, 1, 0, 0), ONE, (1, 2, 3, 2, 1)]
        for sign, meaning in MEANINGS.items():
            for border in chosen:
                span = read_range(sign + version_text(border))
                self.assertIs(is_range(span), True)
                for version in FEW:
                    self.assertIs(has(span, version), meaning(version, border), (sign, border, version))

    def test_parts_and_rows(self):
        texts = {
            "* *": ((FIRST, None),), ">=1.0.0 <2.0.0": ((ONE, TWO),), "<2.0.0 >=1.0.0": ((ONE, TWO),),
            ">=1.0.0 * <2.0.0 *": ((ONE, TWO),),
            ">=2.0.0 <1.0.0": (), "<1.0.0 || >=2.0.0": ((FIRST, ONE), (TWO, None)),
            ">=2.0.0 || <1.0.0": ((FIRST, ONE), (TWO, None)), ">=1.0.0 <2.0.0 || >=2.0.0 <3.0.0": ((ONE, THREE),),
            "<1.0.0 || >=1.0.0": ((FIRST, None),), "* || =1.0.0": ((FIRST, None),),
            "<1.0.0 >1.0.0 || =2.0.0 <3.0.0": ((TWO, (2, 0, 1, 0, 0)),), "<0.0.0-alpha.0 || <0.0.0-alpha.0": (),
            ">=1.0.0 <2.0.0 || >=3.0.0 || <0.0.0-alpha.0": ((ONE, TWO), (THREE, None)),
            ">=3.0.0 || >=1.0.0 <2.0.0 <3.0.0 || >=1.0.0 <2.0.0": ((ONE, TWO), (THREE, None)),
        }
        for text, span in texts.items():
            self.assertEqual(read_range(text), span, text)

    def test_rows_version_by_version(self):
        parts = [(sign, border) for sign in (">=", "<", "^", "=") for border in [(0, 1, 0, 3, 0), (0, 2, 0, 1, 1), ONE]]
        for a, b, c in itertools.product(parts, repeat=3):
            one, two, three = [sign + version_text(border) for sign, border in (a, b, c)]
            span = read_range(f"{one} {two} || {three}")
            self.assertIs(is_range(span), True)
            for version in FEW[::7]:
                in_a, in_b, in_c = [MEANINGS[sign](version, border) for sign, border in (a, b, c)]
                self.assertIs(has(span, version), (in_a and in_b) or in_c, (one, two, three, version))

    def test_twenty_rows(self):
        span = read_range(" || ".join(f"={number}.0.0" for number in range(20)))
        self.assertEqual(span, tuple(((number, 0, 0, 3, 0), (number, 0, 1, 0, 0)) for number in range(20)))


class RangeTextTest(unittest.TestCase):
    def test_plain_texts_there_and_back(self):
        texts = {
            "<0.0.0-alpha.0": (), "*": ((FIRST, None),), "<1.0.0": ((FIRST, ONE),), ">=1.0.0": ((ONE, None),),
            ">=1.0.0 <2.0.0": ((ONE, TWO),), "<1.0.0 || >=2.0.0": ((FIRST, ONE), (TWO, None)),
            ">=1.0.0 <1.0.1-alpha.0": ((ONE, (1, 0, 1, 0, 0)),), "<0.0.0-alpha.1": ((FIRST, (0, 0, 0, 0, 1)),),
            "<0.0.0-beta.2 || >=1.0.0-rc.4 <2.0.0 || >=3.0.0": ((FIRST, (0, 0, 0, 1, 2)), ((1, 0, 0, 2, 4), TWO),
                                                               (THREE, None)),
            ">=0.0.0-alpha.1 <0.0.0": (((0, 0, 0, 0, 1), (0, 0, 0, 3, 0)),),
        }
        for text, span in texts.items():
            self.assertEqual(range_text(span), text)
            self.assertEqual(read_range(text), span)

    def test_many_pairs(self):
        span = tuple(((n, 0, 0, 3, 0), (n, 1, 0, 3, 0)) for n in range(20))
        self.assertEqual(range_text(span), " || ".join(f">={n}.0.0 <{n}.1.0" for n in range(20)))
        self.assertEqual(read_range(range_text(span)), span)


class WrongTextsTest(unittest.TestCase):
    def check_wrong(self, text, at):
        with self.assertRaises(BadText) as caught:
            read_range(text)
        self.assertEqual(caught.exception.at, at, text)

    def test_no_strings(self):
        for thing in ANY_VALUES:
            if not isinstance(thing, str):
                self.check_wrong(thing, -1)
        self.check_wrong(((ONE, None),), -1)
        self.check_wrong(["*"], -1)

    def test_wrong_characters(self):
        wrong = {
            ">=1.0.0 | 2": 9, ">=1.0.0 | <2.0.0": 9, ">=1.0.0||<2.0.0": 7, ">=1.0.0 ||<2.0.0": 10,
            ">=1.0.0|| <2.0.0": 7, ">=1.0.0  || <2.0.0": 8, ">=1.0.0 ||  <2.0.0": 11, ">=1.0.0 ||| <2.0.0": 10,
            ">=1.0.0 || || <2.0.0": 11, "|| *": 0, " *": 0, "*  *": 2, "**": 1, "*>=1.0.0": 1, "*1": 1, "1.0.0": 0,
            "a": 0, "\n": 0, "*\n": 1, "* \n": 2, ">=1.0.0\n": 7, ">= 1.0.0": 2, "> =1.0.0": 1, "=>1.0.0": 1,
            "==1.0.0": 1, ">>1.0.0": 1, "<>1.0.0": 1, ">==1.0.0": 2, "^=1.0.0": 1, "~>1.0.0": 1, "^^1.0.0": 1,
            ">=*": 2, ">=01.0.0": 3, ">=1.0 <2.0.0": 5, "^1.2": 4, "^1.x": 3, "~1.0.0-rc": 9, "~1.0.0-rc.1-rc.1": 11,
            ">=1.0.0-gamma.1": 8, ">=1.0.0-Beta.1": 8, ">=1.0.0,<2.0.0": 7, ">=1.0.0 and": 8, "!=1.0.0": 0,
            ">=1.0.0 <2.0.0 |": 16, ">=1.0.0 <2.0.0 |x": 16, "* || * || x": 10, "x" * 2000: 0, "*" * 2000: 1,
        }
        for text, at in wrong.items():
            self.check_wrong(text, at)

    def test_texts_that_lack_something(self):
        for text in ("", ">", "<", "=", ">=", "^", "~", "* ", "* |", "* ||", "* || ", "* || <", ">=1", ">=1.", ">=1.0",
                     ">=1.0.", ">=1.0.0-", ">=1.0.0-a", ">=1.0.0-rc", ">=1.0.0-rc.", ">=1.0.0 ", ">=1.0.0 <",
                     ">=1.0.0 |", ">=1.0.0 ||", ">=1.0.0 || ", ">=1.0.0 || <2.0.", ">=1.0.0 <2.0.0 "):
            self.check_wrong(text, len(text))

    def check_against_grammar(self, text):
        at = wrong_at(RANGE, text)
        if at is None:
            span = read_range(text)
            self.assertIs(is_range(span), True)
            self.assertEqual(read_range(range_text(span)), span)
        else:
            self.check_wrong(text, at)

    def test_spoiled_texts_against_the_grammar(self):
        for text in (">=1.0.0 <2.0.0-rc.1 || * || ^0.10.2", "<=1.0.0-alpha.0 || ~3.0.1 >2.0.0 =1.0.0"):
            for spoilt in spoiled(text, "019.-+ |\n*<>=^~abr"):
                self.check_against_grammar(spoilt)

    def test_short_texts_against_the_grammar(self):
        for length in range(6):
            for letters in itertools.product("* |<=", repeat=length):
                self.check_against_grammar("".join(letters))
        for tail in itertools.product("* |<=0", repeat=4):
            self.check_against_grammar("<=1.0.0" + "".join(tail))


if __name__ == "__main__":
    unittest.main()
