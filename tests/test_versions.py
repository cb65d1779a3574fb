import itertools
import unittest

from tests.grammar import VERSION, spoiled, wrong_at
from tests.samples import ANY_VALUES, wrong_ones
from versionjudge.errors import BadText, BadVersion
from versionjudge.versions import is_early, is_version, next_version, read_version, version_text

NINE = 999999999
RIGHT = [
    (0, 0, 0, 0, 0), (0, 0, 0, 3, 0), (1, 2, 3, 0, 4), (1, 2, 3, 1, 4), (1, 2, 3, 2, 4), (1, 2, 3, 3, 0),
    (0, 10, 0, 3, 0), (NINE, NINE, NINE, 3, 0), (NINE, NINE, NINE, 2, NINE), (100000000, 0, 7, 1, 0),
]
TEXTS = {
    "0.0.0": (0, 0, 0, 3, 0), "0.0.0-alpha.0": (0, 0, 0, 0, 0), "1.2.3": (1, 2, 3, 3, 0),
    "1.2.3-alpha.0": (1, 2, 3, 0, 0), "1.2.3-beta.4": (1, 2, 3, 1, 4), "10.20.30-rc.10": (10, 20, 30, 2, 10),
    "999999999.0.999999999-rc.999999999": (NINE, 0, NINE, 2, NINE),
}


class VersionsTest(unittest.TestCase):
    def test_right_versions(self):
        for version in RIGHT:
            self.assertIs(is_version(version), True, version)

    def test_wrong_versions(self):
        wrong = [
            (1, 2, 3, 3, 1), (1, 2, 3, 4, 0), (-1, 2, 3, 3, 0), (1, -2, 3, 3, 0), (1, 2, -3, 3, 0), (1, 2, 3, -1, 0),
            (1, 2, 3, 0, -1), (1, 2, 3, 3), (1, 2, 3, 3, 0, 0), [1, 2, 3, 3, 0], (True, 2, 3, 3, 0), (1, True, 3, 3, 0),
            (1, 2, True, 3, 0), (1, 2, 3, True, 0), (1, 2, 3, 3, False), (1, 2, 3, 0, True), ("1", 2, 3, 3, 0),
            (None, 2, 3, 3, 0), (1, 2, 3, [3], 0), (1, 2, (3,), 3, 0), {1: 2},
        ]
        for thing in wrong + ANY_VALUES:
            self.assertIs(is_version(thing), False, thing)

    def test_changed_versions_are_versions_only_by_the_rule(self):
        for thing in wrong_ones(RIGHT):
            plain = (isinstance(thing, tuple) and len(thing) == 5 and all(type(item) is int for item in thing)
                     and min(thing) >= 0 and (thing[3] in (0, 1, 2) or thing[3:] == (3, 0)))
            self.assertIs(is_version(thing), plain, thing)

    def test_early(self):
        for version in RIGHT:
            self.assertIs(is_early(version), version[3] in (0, 1, 2), version)

    def test_next(self):
        following = {
            (0, 0, 0, 0, 0): (0, 0, 0, 0, 1), (1, 2, 3, 0, 9): (1, 2, 3, 0, 10), (1, 2, 3, 1, 4): (1, 2, 3, 1, 5),
            (1, 2, 3, 2, 0): (1, 2, 3, 2, 1), (1, 2, 3, 3, 0): (1, 2, 4, 0, 0), (0, 0, 0, 3, 0): (0, 0, 1, 0, 0),
            (1, 2, 9, 3, 0): (1, 2, 10, 0, 0), (NINE, NINE, NINE, 3, 0): (NINE, NINE, NINE + 1, 0, 0),
        }
        for version, after in following.items():
            self.assertEqual(next_version(version), after)
            self.assertIs(is_version(next_version(version)), True)

    def test_no_version_between_one_and_its_next_one(self):
        few = [thing for thing in itertools.product(range(3), range(3), range(4), range(4), range(4))
               if is_version(thing)]
        for version in few:
            after = next_version(version)
            self.assertLess(version, after)
            self.assertEqual([other for other in few if version < other < after], [])

    def test_bad_versions(self):
        for call in (is_early, next_version, version_text):
            for thing in wrong_ones([(1, 0, 1, 3, 0)]):
                if is_version(thing):
                    continue
                with self.assertRaises(BadVersion) as caught:
                    call(thing)
                self.assertIs(caught.exception.thing, thing)


class VersionTextsTest(unittest.TestCase):
    def test_there_and_back(self):
        for text, version in TEXTS.items():
            self.assertEqual(version_text(version), text)
            self.assertEqual(read_version(text), version)
        for version in RIGHT:
            self.assertEqual(read_version(version_text(version)), version)
            self.assertIs(is_version(read_version(version_text(version))), True)

    def check_wrong(self, text, at):
        with self.assertRaises(BadText) as caught:
            read_version(text)
        self.assertEqual(caught.exception.at, at, text)

    def test_no_strings(self):
        for thing in ANY_VALUES:
            if not isinstance(thing, str):
                self.check_wrong(thing, -1)
        self.check_wrong(b"1.2.3", -1)
        self.check_wrong((1, 2, 3, 3, 0), -1)
        self.check_wrong(["1.2.3"], -1)

    def test_texts_that_lack_something(self):
        for text in TEXTS:
            for length in range(len(text)):
                if text[:length].count(".") < 2 or text[length - 1] in ".-" or text[length - 1].isalpha():
                    self.check_wrong(text[:length], length)
        self.check_wrong("", 0)
        self.check_wrong("1.2.", 4)
        self.check_wrong("1.2.3-", 6)
        self.check_wrong("1.2.3-alph", 10)
        self.check_wrong("1.2.3-rc", 8)
        self.check_wrong("1.2.3-rc.", 9)

    def test_wrong_characters(self):
        wrong = {
            "1.02.3": 3, "01.2.3": 1, "00.2.3": 1, "1.2.03": 5, "1.2.3-rc.01": 10, "1.2.3-rc.00": 10, "+1.2.3": 0,
            "-1.2.3": 0, "1.-2.3": 2, "1.+2.3": 2, "1.2.3-rc.-1": 9, " 1.2.3": 0, "1.2.3 ": 5, "1. 2.3": 2, "1 .2.3": 1,
            "\n1.2.3": 0, "1.2.3\n": 5, "1.\n2.3": 2, "1.2.3-rc.4\n": 10, "1.2.3-rc.4 ": 10, "1..3": 2, ".1.2": 0,
            "1.2.3.4": 5, "1.2.3.": 5, "1,2,3": 1, "1_0.2.3": 1, "v1.2.3": 0, "a": 0, "1.2.3-x": 6, "1.2.3-whole.0": 6,
            "1.2.3-alp.1": 9, "1.2.3-alphaalpha.1": 11, "1.2.3-rrc.1": 7, "1.2.3-rc.rc.1": 9, "1.2.3-RC.1": 6,
            "1.2.3-Alpha.1": 6, "1.2.3-bEta.1": 7, "1.2.3-beta4": 10, "1.2.3-beta.-": 11, "1.2.3-beta.x": 11,
            "1.2.3--rc.1": 6, "1.2.3-rc.1-rc.1": 10, "1.2.3-rc.1.2": 10, "1.2.3-3": 6, "1.2.3-.1": 6, "1.2.3beta.4": 5,
            "1.2.3-betarc.1": 10, "1.2.3-b eta.1": 7, "x" * 2000: 0, "1" * 2000: 2000, "1.2.3" + "-" * 1995: 6,
        }
        for text, at in wrong.items():
            self.check_wrong(text, at)

    def test_digits_of_other_scripts(self):
        self.check_wrong("\u0661.2.3", 0)
        self.check_wrong("1.2.3\u00b2", 5)

    def test_spoiled_texts_against_the_grammar(self):
        for text in list(TEXTS)[:6]:
            for spoilt in spoiled(text, "019.-+ \nabcehlprtxR"):
                at = wrong_at(VERSION, spoilt)
                if at is None:
                    self.assertEqual(version_text(read_version(spoilt)), spoilt)
                else:
                    self.check_wrong(spoilt, at)

    def test_short_texts_against_the_grammar(self):
        for length in range(6):
            for letters in itertools.product("01.-r", repeat=length):
                text = "".join(letters)
                at = wrong_at(VERSION, text)
                if at is None:
                    self.assertEqual(version_text(read_version(text)), text)
                else:
                    self.check_wrong(text, at)


if __name__ == "__main__":
    unittest.main()
