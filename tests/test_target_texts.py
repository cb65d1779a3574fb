import itertools
import re
import unittest

from tests.grammar import CONDITION, spoiled, wrong_at
from tests.samples import ANY_VALUES
from tests.test_targets import SIX_DEEP, TARGETS, TWELVE, conditions
from versionjudge.errors import BadText
from versionjudge.targets import condition_text, is_condition, is_target, read_condition, read_target, target_text

ALWAYS, LINUX, MAC = ("always",), ("is", "os", "linux"), ("is", "os", "mac")
LAST = "z" * 10

# What brings a text that begins rightly to an end, if anything does: a key that is as great as possible, its value.
TAILS = ["", "a"] + ["z" * many + "=a" for many in range(11)]


def is_right_target_text(text):
    if text == "":
        return True
    if not re.fullmatch("[a-z]{1,10}=[a-z]{1,10}(,[a-z]{1,10}=[a-z]{1,10})*", text):
        return False
    keys = [pair.split("=")[0] for pair in text.split(",")]
    return all(one < other for one, other in zip(keys, keys[1:]))


def wrong_target_at(text):
    """The position of [1.3] for a text of a target, None if it is right."""
    for at in range(len(text)):
        if not any(is_right_target_text(text[:at + 1] + tail) for tail in TAILS):
            return at
    return None if is_right_target_text(text) else len(text)


class ConditionTextsTest(unittest.TestCase):
    def check_wrong(self, text, at):
        with self.assertRaises(BadText) as caught:
            read_condition(text)
        self.assertEqual(caught.exception.at, at, text)

    def test_there_and_back(self):
        texts = {
            "always": ALWAYS, "os=linux": LINUX, "not always": ("not", ALWAYS), "not os=linux": ("not", LINUX),
            "(os=linux and os=mac)": ("both", LINUX, MAC), "(os=linux or os=mac)": ("either", LINUX, MAC),
            "not not always": ("not", ("not", ALWAYS)), "not (always or always)": ("not", ("either", ALWAYS, ALWAYS)),
            "(not os=mac and always)": ("both", ("not", MAC), ALWAYS),
            "((os=mac or always) and os=linux)": ("both", ("either", MAC, ALWAYS), LINUX),
            "(os=linux and (os=mac or always))": ("both", LINUX, ("either", MAC, ALWAYS)),
            "not=always": ("is", "not", "always"), "always=not": ("is", "always", "not"),
            "not not=always": ("not", ("is", "not", "always")), "not always=a": ("not", ("is", "always", "a")),
            "and=or": ("is", "and", "or"), "(and=and and or=or)": ("both", ("is", "and", "and"), ("is", "or", "or")),
            "(always=always or not not=not)": ("either", ("is", "always", "always"), ("not", ("is", "not", "not"))),
            "nota=b": ("is", "nota", "b"), "alwaysx=b": ("is", "alwaysx", "b"), "no=b": ("is", "no", "b"),
            "alway=b": ("is", "alway", "b"), "a=b": ("is", "a", "b"),
            "abcdefghij=zzzzzzzzzz": ("is", "abcdefghij", "zzzzzzzzzz"),
            "not not not not not not os=linux": SIX_DEEP,
        }
        for text, condition in texts.items():
            self.assertEqual(condition_text(condition), text)
            self.assertEqual(read_condition(text), condition)
            self.assertIs(is_condition(read_condition(text)), True)

    def test_all_small_conditions_there_and_back(self):
        found = conditions(1) + conditions(2)[::17] + [SIX_DEEP, TWELVE]
        texts = [condition_text(condition) for condition in found]
        for condition, text in zip(found, texts):
            self.assertEqual(read_condition(text), condition)
        self.assertEqual(len(set(texts)), len(set(found)))

    def test_no_strings(self):
        for thing in [thing for thing in ANY_VALUES if not isinstance(thing, str)] + [b"always", ALWAYS, ["always"]]:
            self.check_wrong(thing, -1)

    def test_wrong_characters(self):
        wrong = {
            "(os=mac or )": 11, "Always": 0, " always": 0, "always ": 6, "always\n": 6, "always always": 6,
            "always)": 6,
            "alwaysalways": 10, "alwaysabcde": 10, "alwaysabcd ": 10, "alway ": 5, "os = mac": 2, "os=": 3,
            "os==mac": 3,
            "os=Mac": 3, "os=mac ": 6, "os=mac,": 6, "os=mac and os=mac": 6, "abcdefghijk=a": 10, "a=abcdefghijk": 12,
            "not": 3, "not ": 4, "not  always": 4, "not)": 3, "notalways": 9, "not(always or always)": 3, "not not": 7,
            "not\n": 3, "(": 1, "()": 1, "( always or always)": 1, "(always)": 7, "(always or always": 17,
            "(always or always))": 18, "(always  or always)": 8, "(always or  always)": 11, "(always xor always)": 8,
            "(always and always)x": 19, "(always an always)": 10, "(always or\nalways)": 10, "(always nor always)": 8,
            "(always,always)": 7, "(always=or always)": 12, "(always=a or always=)": 20, "((always or always)": 19,
            "(os=mac or os=mac or os=mac)": 17, "(os=mac andos=mac)": 11, "=mac": 0, "1=mac": 0, "os=1": 3, "os!": 2,
            "[always]": 0, "-": 0, "x" * 2000: 10, "(" * 40: 40, "not " * 40: 160, "(" * 39 + ")": 39,
        }
        for text, at in wrong.items():
            self.check_wrong(text, at)

    def test_texts_that_lack_something(self):
        for text in ("", "a", "alway", "o", "os", "os=", "not ", "not n", "(", "(o", "(os=mac", "(os=mac ", "(os=mac a",
                     "(os=mac an", "(os=mac and", "(os=mac and ", "(os=mac o", "(os=mac or", "(os=mac or ",
                     "(os=mac or always", "not (not not", "((a=b and c=d) or not (e=f and g=h)", "abcdefghij"):
            self.check_wrong(text, len(text))

    def check_against_grammar(self, text):
        at = wrong_at(CONDITION, text)
        if at is None:
            self.assertEqual(condition_text(read_condition(text)), text)
        else:
            self.check_wrong(text, at)

    def test_spoiled_texts_against_the_grammar(self):
        for text in ("(os=mac and not always)", "not (always or (a=not or abcdefghij=z))"):
            for spoilt in spoiled(text, "(=) \nadnorsyA1,"):
                self.check_against_grammar(spoilt)

    def test_short_texts_against_the_grammar(self):
        for length in range(6):
            for tail in itertools.product("a=( )", repeat=length):
                self.check_against_grammar("".join(tail))
        for start in ("not", "always", "(always", "(always o", "(not=not and"):
            for tail in itertools.product("a=( r)", repeat=4):
                self.check_against_grammar(start + "".join(tail))

    def test_forty_levels(self):
        deep = "not " * 20 + "(" * 20 + "a=b" + " or always)" * 20
        self.assertEqual(condition_text(read_condition(deep)), deep)


class TargetTextsTest(unittest.TestCase):
    def check_wrong(self, text, at):
        with self.assertRaises(BadText) as caught:
            read_target(text)
        self.assertEqual(caught.exception.at, at, text)

    def test_there_and_back(self):
        texts = {
            "": (), "os=linux": (("os", "linux"),), "arch=arm,os=linux": (("arch", "arm"), ("os", "linux")),
            "a=b,aa=b,ab=b,b=a": (("a", "b"), ("aa", "b"), ("ab", "b"), ("b", "a")),
            "zzzzzzzzzy=zzzzzzzzzz,zzzzzzzzzz=a": (("zzzzzzzzzy", "zzzzzzzzzz"), ("zzzzzzzzzz", "a")),
            "not=always": (("not", "always"),),
        }
        for text, target in texts.items():
            self.assertEqual(target_text(target), text)
            self.assertEqual(read_target(text), target)
        for target in TARGETS:
            self.assertEqual(read_target(target_text(target)), target)
            self.assertIs(is_target(read_target(target_text(target))), True)
        eight = tuple((letter * 10, letter) for letter in "abcdefgh")
        self.assertEqual(read_target(target_text(eight)), eight)

    def test_no_strings(self):
        for thing in [thing for thing in ANY_VALUES if not isinstance(thing, str)] + [b"", (("os", "mac"),), ["os"]]:
            self.check_wrong(thing, -1)

    def test_wrong_characters(self):
        wrong = {
            ",": 0, " ": 0, "\n": 0, "=": 0, "os=linux,": 9, "os=linux ,p=q": 8, "os=linux, p=q": 9, "os=linux,,p=q": 9,
            "os=linux\n": 8, "os=linux p=q": 8, "os": 2, "os=": 3, "os==": 3, "os,": 2, "OS=linux": 0, "os=Linux": 3,
            "abcdefghijk=a": 10, "a=abcdefghijk": 12, "o1=a": 1, "os=a=b": 4, "os=linux,p": 10, "os=linux,p=": 11,
            "x" * 2000: 10,
        }
        for text, at in wrong.items():
            self.check_wrong(text, at)

    def test_keys_that_cannot_go_on_in_ascending_order(self):
        wrong = {
            "os=mac,os=mac": 9, "os=mac,o=mac": 8, "os=mac,n": 7, "os=mac,arch=arm": 7, "os=mac,or=a": 8,
            "os=mac,or": 8, "os=mac,o": 8, "os=mac,os": 9, "b=x,a": 4, "b=x,b=x": 5, "b=x,b": 5, "ab=x,aa": 6,
            "ab=x,aaz=y": 6,
            "abcdefghij=x,abcdefghij=y": 22, "abcdefghij=x,abcdefghij": 22, "abcdefghij=x,abcdefghii": 22,
            "abcdefghij=x,abcdefghi=x": 22, "abcdefghij=x,abcdefghia": 22, "abcdefghij=x,abcdefghijk": 22,
            "abzzzzzzzz=x,ab=x": 14, "abzzzzzzzz=x,aba": 14, "abzzzzzzzz=x,abz": 14, "abzzzzzzzz=x,ab": 14,
            "abzzzzzzzz=x,a": 14, "abzzzzzzzz=x,a=x": 14, "abzzzzzzzz=x,ac": 15,
            "azzzzzzzzz=x,a": 13, "azzzzzzzzz=x,a=x": 13, "azzzzzzzzz=x,b": 14, "zzzzzzzzzz=a,": 12,
            "zzzzzzzzzz=a,z": 12, "zzzzzzzzzy=a,zzzzzzzzzz=a,": 25, "zzzzzzzzzy=a,zzzzzzzzzy": 22,
            "zzzzzzzzz=a,zzzzzzzzz=": 21, "zzzzzzzzz=a,zzzzzzzzza=": 23, "a=x,c=x,b=x": 8, "c=x,b=x,d=x": 4,
        }
        for text, at in wrong.items():
            self.assertEqual(wrong_target_at(text), at, text)
            self.check_wrong(text, at)

    def test_the_last_word_as_a_value_ends_nothing(self):
        self.assertEqual(read_target("a=zzzzzzzzzz,b=a"), (("a", "zzzzzzzzzz"), ("b", "a")))

    def check_against_oracle(self, text):
        at = wrong_target_at(text)
        if at is None:
            self.assertEqual(target_text(read_target(text)), text)
        else:
            self.check_wrong(text, at)

    def test_short_texts(self):
        for length in range(7):
            for tail in itertools.product("ab=,", repeat=length):
                self.check_against_oracle("".join(tail))

    def test_keys_near_the_preceding_one(self):
        for first in ("ay", "ayz", "azzzzzzzzz", "azzzzzzzzy", "yzzzzzzzzz", LAST, LAST[1:], "abcdefghij",
                      "abzzzzzzzz"):
            for length in range(1, 11):
                for cut in range(length + 1):
                    for letter in "abyz":
                        for tail in ("=a", "", ",", "a=a", "z=a"):
                            key = (first[:cut] + letter * length)[:length]
                            self.check_against_oracle(f"{first}=v,{key}{tail}")

    def test_spoiled_texts(self):
        for text in ("arch=arm,os=linux,osx=a", "zzzzzzzzzy=zz,zzzzzzzzzz=a", "a=abcdefghij,abcdefghij=a"):
            for spoilt in spoiled(text, "=, \nasxzA1"):
                self.check_against_oracle(spoilt)


if __name__ == "__main__":
    unittest.main()
