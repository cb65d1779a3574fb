import itertools
import random
import re
import unittest

from tests.grammar import NEED, spoiled, wrong_at
from tests.samples import ANY_VALUES
from tests.worlds import ALL, ALWAYS, FIRST, LINUX, NEVER, ONE, RICH, TWO, need, release, some_need, some_world
from versionjudge.errors import BadText
from versionjudge.ranges import read_range
from versionjudge.stores import is_need, is_world, need_text, read_need, read_world, world_text
from versionjudge.targets import read_condition
from versionjudge.versions import read_version

LAST = "z" * 10

RICH_TEXT = """store main
shelf app
release 1.0.0
need core >=1.0.0 <2.0.0
need core >=1.0.0 <2.0.0
need base *
release 2.0.0
withdrawn
need core[fast,safe] >=2.0.0 if os=linux
need base[fast] <0.0.0-alpha.0
bar core >=1.0.0 <2.0.0 || >=3.0.0
bar tool *
option color
option log
with tool *
with base * if not always
stand base 1.0.0
stand base 2.0.0
stand tool 3.0.0-rc.1
shelf core
release 1.0.0
release 2.0.0-beta.4
bar core <0.0.0-alpha.0
release 2.0.0
stand core 3.0.0
release 3.0.0-rc.1
option fast
with app *
store empty
store side
shelf core
release 1.0.0
withdrawn
release 3.0.0
stand base 3.0.0
stand tool 1.0.0
shelf tool
release 0.0.0-alpha.0
release 0.0.0"""


class NeedTextsTest(unittest.TestCase):
    def check_wrong(self, text, at):
        with self.assertRaises(BadText) as caught:
            read_need(text)
        self.assertEqual(caught.exception.at, at, text)

    def test_there_and_back(self):
        texts = {
            "core *": need("core"), "core <0.0.0-alpha.0": need("core", ()),
            "core[fast] *": need("core", ALL, ("fast",)),
            "core[fast,safe] >=1.0.0 <2.0.0 if os=linux": need("core", ((ONE, TWO),), ("fast", "safe"), LINUX),
            "a <1.0.0 || >=2.0.0 if not always": need("a", ((FIRST, ONE), (TWO, None)), (), NEVER),
            "if >=1.0.0 if (if=if and not os=linux)": need(
                "if", ((ONE, None),), (), ("both", ("is", "if", "if"), ("not", LINUX))),
            "always[a,aa,ab,b] * if not not always": need("always", ALL, ("a", "aa", "ab", "b"), ("not", NEVER)),
            "abcdefghij[zzzzzzzzzy,zzzzzzzzzz] *": need("abcdefghij", ALL, ("zzzzzzzzzy", "zzzzzzzzzz")),
        }
        for text, one in texts.items():
            self.assertEqual(need_text(one), text)
            self.assertEqual(read_need(text), one)
        chance = random.Random(8)
        for _ in range(300):
            one = some_need(chance)
            self.assertEqual(read_need(need_text(one)), one)
            self.assertIs(is_need(read_need(need_text(one))), True)

    def test_texts_that_are_not_plain(self):
        texts = {
            "core ^1.0.0": "core >=1.0.0 <2.0.0-alpha.0", "core * if always": "core *",
            "core ~1.2.3 if always": "core >=1.2.3 <1.3.0-alpha.0", "core * * || *": "core *",
            "core =1.0.0 || =2.0.0 if os=a": "core >=1.0.0 <1.0.1-alpha.0 || >=2.0.0 <2.0.1-alpha.0 if os=a",
            "core[a] <1.0.0 >2.0.0": "core[a] <0.0.0-alpha.0", "a <=1.0.0 >=1.0.0": "a >=1.0.0 <1.0.1-alpha.0",
        }
        for text, plain in texts.items():
            self.assertEqual(need_text(read_need(text)), plain)
        self.assertEqual(read_need("core * if always"), ("core", ALL, (), ALWAYS))

    def test_no_strings(self):
        for thing in [thing for thing in ANY_VALUES if not isinstance(thing, str)] + [b"core *", need("core")]:
            self.check_wrong(thing, -1)

    def test_wrong_characters(self):
        wrong = {
            "Core *": 0, " core *": 0, "core  *": 5, "core *\n": 6, "core* ": 4, "core,*": 4, "coreandcore *": 10,
            "core[] *": 5, "core[,a] *": 5, "core[a,] *": 7, "core[a,,b] *": 7, "core[a, b] *": 7, "core[a ]": 6,
            "core[a]*": 7, "core[a][b] *": 7, "core[a] [b] *": 8, "core [a] *": 5, "core[A] *": 5, "core[a1] *": 6,
            "core[abcdefghijk] *": 15, "core(a) *": 4, "core x": 5, "core 1.0.0": 5, "core >=1.0": 10, "core * ": 7,
            "core * x": 7, "core * i": 8, "core * ix": 8, "core * if": 9, "core * if ": 10, "core * ifos=a": 9,
            "core * if  os=a": 10, "core *  if os=a": 7, "core *if os=a": 6, "core * || if os=a": 10,
            "core * | if os=a": 8, "core if os=a": 5, "core * if os=a *": 14, "core * if os=a if os=a": 14,
            "core * if os=a ": 14, "core * if (os=a)": 15, "core * if not": 13, "core >=1.0.0 if os": 18,
            "core >=1.0.0 || >=2.0.0 || i": 27, "core >=1.0.0  if os=a": 13, "core * If os=a": 7,
            "core * unless os=a": 7, "core": 4, "": 0, "core ": 5, "core[": 5, "core[a": 6, "core[a,": 7, "core[a]": 7,
            "core[a] ": 8,
        }
        for text, at in wrong.items():
            self.check_wrong(text, at)

    def test_options_that_cannot_go_on_in_ascending_order(self):
        wrong = {
            "core[a,a] *": 8, "core[b,a] *": 7, "core[b,a": 7, "core[ab,a]": 9, "core[ab,a": 9, "core[ab,aa": 9,
            "core[fast,f": 11, "core[fast,e": 10, "core[safe,fast] *": 10, "core[zzzzzzzzzz,": 15,
            "core[zzzzzzzzzz,a] *": 15, "core[zzzzzzzzzz": 15, "core[azzzzzzzzz,a] *": 16, "core[azzzzzzzzz,b": 17,
            "core[abcdefghij,abcdefghij] *": 25, "core[abcdefghij,abcdefghik": 26,
            "core[zzzzzzzzzy,zzzzzzzzzz,": 26, "core[a,c,b] *": 9,
        }
        for text, at in wrong.items():
            self.check_wrong(text, at)

    def test_options_against_all_ends(self):
        tails = ["", "] *"] + ["z" * many + "] *" for many in range(1, 11)]
        texts = ["core[" + "".join(tail) for length in range(6) for tail in itertools.product("ab],", repeat=length)]
        firsts = ["azzzzzzzzz", "ay", LAST, LAST[1:], "abzzzzzzzz"]
        for first, cut, letter in itertools.product(firsts, range(11), "abyz"):
            texts += [f"core[{first},{first[:cut]}{letter}", f"core[{first},{first[:cut]}{letter}]"]
        for text in texts:
            at = 0
            while at < len(text) and any(self.is_right(text[:at + 1] + tail) for tail in tails + [" *", "*"]):
                at += 1
            self.check_wrong(text, at)

    def is_right(self, text):
        found = re.fullmatch(r"[a-z]{1,10}(?:\[([a-z]{1,10}(?:,[a-z]{1,10})*)\])? \*", text)
        options = found.group(1).split(",") if found and found.group(1) else []
        return bool(found) and all(one < other for one, other in zip(options, options[1:]))

    def test_spoiled_texts_against_the_grammar(self):
        for text in ("core[fast] >=1.0.0 || * if (a=b or not c=d)", "if * if if=if", "a ^0.1.0-rc.2 <2.0.0 if always"):
            for spoilt in spoiled(text, "[] |*<i=f\nzA1("):
                at = wrong_at(NEED, spoilt)
                if at is None:
                    self.assertEqual(read_need(need_text(read_need(spoilt))), read_need(spoilt))
                else:
                    self.check_wrong(spoilt, at)


CLOSERS = ["stand", "release", "shelf", "store"]
FOLLOWING = {
    "store": ["shelf", "store"], "shelf": ["release"], "release": ["withdrawn", "need", "bar", "option", *CLOSERS],
    "withdrawn": ["need", "bar", "option", *CLOSERS], "need": ["need", "bar", "option", *CLOSERS],
    "bar": ["bar", "option", *CLOSERS], "option": ["with", "option", *CLOSERS], "with": ["with", "option", *CLOSERS],
    "stand": CLOSERS,
}
CONTENTS = {
    "store": " ([a-z]{1,10})", "shelf": " ([a-z]{1,10})", "release": " (.+)", "withdrawn": "", "need": " (.+)",
    "bar": " ([a-z]{1,10}) (.+)", "option": " ([a-z]{1,10})", "with": " (.+)", "stand": " ([a-z]{1,10}) (.+)",
}


def line_parts(line):
    """The kind of a line and what it holds, None if no text of a world has such a line anywhere."""
    kind = line.split(" ")[0]
    found = kind in CONTENTS and re.fullmatch(kind + CONTENTS[kind], line)
    if not found:
        return None
    parts = list(found.groups())
    readers = {"release": read_version, "need": read_need, "with": read_need, "bar": read_range, "stand": read_version}
    if kind in readers:
        try:
            parts[-1] = readers[kind](parts[-1])
        except BadText:
            return None
    return kind, parts


def wrong_line(text):
    """The number of [4.4] for a text of a world, by which kinds of lines follow each other; None if it is right."""
    before, last, labels = "start", {}, []
    for number, line in enumerate(text.split("\n"), 1):
        found = line_parts(line)
        if found is None or found[0] not in FOLLOWING.get(before, ["store"]):
            return number
        before, parts = found
        key = parts if before in ("release", "stand") else parts[:1]
        if before in ("shelf", "release", "bar", "option", "stand") and before in last and not last[before] < key:
            return number
        last[before] = key
        # A line of one of these kinds begins something in which the order of others begins anew.
        anew = {"store": ["shelf"], "shelf": ["release"], "release": ["bar", "option", "stand"]}
        for kind in anew.get(before, []):
            last.pop(kind, None)
        if before == "store":
            labels.append(parts[0])
            if labels.count(parts[0]) > 1 or len(labels) > 4:
                return number
    return len(text.split("\n")) + 1 if before == "shelf" else None


class WorldTextsTest(unittest.TestCase):
    def check_wrong(self, text, at):
        with self.assertRaises(BadText) as caught:
            read_world(text)
        self.assertEqual(caught.exception.at, at, text)

    def check(self, text):
        at = wrong_line(text)
        if at is None:
            self.assertIs(is_world(read_world(text)), True, text)
        else:
            self.check_wrong(text, at)

    def test_there_and_back(self):
        self.assertEqual(world_text(RICH), RICH_TEXT)
        self.assertEqual(read_world(RICH_TEXT), RICH)
        for world in (RICH[1:], RICH[::-1], RICH[1:2], tuple((label, ()) for label in "dbca")):
            self.assertEqual(read_world(world_text(world)), world)
        self.assertEqual(world_text((("a", ()), ("b", ()))), "store a\nstore b")
        chance = random.Random(9)
        for _ in range(200):
            world = some_world(chance)
            self.assertEqual(read_world(world_text(world)), world)
            self.assertIsNone(wrong_line(world_text(world)))

    def test_texts_that_are_not_plain(self):
        text = ("store a\nshelf b\nrelease 1.0.0\nneed c ^1.0.0 if always\n"
                "bar c =1.0.0 * || =2.0.0\noption o\nwith d ~1.0.0")
        self.assertEqual(world_text(read_world(text)), (
            "store a\nshelf b\nrelease 1.0.0\nneed c >=1.0.0 <2.0.0-alpha.0\n"
            "bar c >=1.0.0 <1.0.1-alpha.0 || >=2.0.0 <2.0.1-alpha.0\noption o\nwith d >=1.0.0 <1.1.0-alpha.0"))

    def test_no_strings(self):
        for thing in [thing for thing in ANY_VALUES if not isinstance(thing, str)] + [b"store main", RICH, ["store a"]]:
            self.check_wrong(thing, -1)

    def test_wrong_lines(self):
        start = "store a\nshelf b\nrelease 1.0.0\n"
        wrong = {
            "": 1, "\n": 1, "store": 1, "store ": 1, "store A": 1, "store a ": 1, " store a": 1, "store  a": 1,
            "store a b": 1, "store abcdefghijk": 1, "shelf a": 1, "x" * 2000: 1, "stores a": 1, "Store a": 1,
            "store a\n": 2, "store a\n\nstore b": 2, "store a\nstore a": 2, "store a\nstore b\nstore a": 3,
            "store a\nstore b\nstore c\nstore d\nstore e": 5, "store a\nstore b\nstore c\nstore d\n": 5,
            "store a\nrelease 1.0.0": 2, "store a\nwithdrawn": 2, "store a\nneed b *": 2,
            "store a\nshelf b": 3, "store a\nshelf b\n": 3, "store a\nshelf b\nshelf c": 3,
            "store a\nshelf b\nstore c": 3,
            "store a\nshelf b\nwithdrawn": 3, "store a\nshelf b\nneed c *": 3, "store a\nshelf": 2,
            "store a\nshelf B": 2,
            "store a\nshelf b\nrelease 1.0": 3, "store a\nshelf b\nrelease 01.0.0": 3, "store a\nshelf b\nrelease *": 3,
            start + "shelf b": 4, start + "shelf a": 4, start + "shelf c": 5, start + "release 1.0.0": 4,
            start + "release 1.0.0-rc.1": 4, start + "withdrawn\nwithdrawn": 5, start + "withdrawn ": 4,
            start + "withdrawn x": 4, start + "Withdrawn": 4, start + "need c *\nwithdrawn": 5, start + "need c": 4,
            start + "need c x": 4, start + "need c[b,a] *": 4, start + "need c * if os": 4, start + "need": 4,
            start + "bar c *\nneed c *": 5, start + "bar c *\nbar c *": 5, start + "bar c *\nbar b *": 5,
            start + "bar c": 4, start + "bar c ": 4, start + "bar c * if os=a": 4, start + "bar c[a] *": 4,
            start + "bar C *": 4, start + "bar *": 4, start + "option o\noption o": 5, start + "option p\noption o": 5,
            start + "option o\nbar c *": 5, start + "option o\nneed c *": 5, start + "option o p": 4,
            start + "with c *": 4,
            start + "need c *\nwith c *": 5, start + "option o\nwith c": 5, start + "option o\nwith c *\nbar c *": 6,
            start + "stand c 1.0.0\nstand c 1.0.0": 5, start + "stand c 2.0.0\nstand c 1.0.0": 5,
            start + "stand d 1.0.0\nstand c 2.0.0": 5, start + "stand c": 4, start + "stand c *": 4,
            start + "stand c 1.0.0\noption o": 5, start + "stand c 1.0.0\nwith c *": 5, start + "stand c 1.0.0 ": 4,
            start + "stand c 1.0.0\nneed c *": 5, start + "stand c 1.0.0\nwithdrawn": 5, start + "stand c 1.0.0\n": 5,
            start + "release 2.0.0\nneed c *\n": 6, start + "# nothing": 4, start + "store b\nshelf c\nrelease x": 6,
        }
        for text, at in wrong.items():
            self.check_wrong(text, at)
            self.assertEqual(wrong_line(text), at, text)

    def test_order_begins_anew(self):
        start = "store a\nshelf b\nrelease 1.0.0\n"
        for rest in ("stand c 1.0.0\nstand c 2.0.0\nstand d 1.0.0",
                     "release 2.0.0\nshelf c\nrelease 1.0.0\nrelease 1.0.1",
                     "shelf c\nrelease 0.0.0\nstore b\nshelf a\nrelease 0.0.0", "bar z *\nrelease 2.0.0\nbar a *",
                     "option z\nwith z *\nrelease 2.0.0\noption a\nwith a *\nwith a *", "need c *\nneed b *\nneed c *",
                     "stand z 1.0.0\nrelease 1.0.1-alpha.0\nstand a 1.0.0"):
            self.assertIs(is_world(read_world(start + rest)), True)

    def test_lines_of_no_other_ends(self):
        for end in ("\r", "\x0b", "\x0c", "\x1c", "\u2028", " "):
            self.check_wrong(f"store a{end}\nstore b", 1)
            self.check_wrong(f"store a{end}store b", 1)

    def test_four_hundred_lines(self):
        text = "store a\n" + "\n".join(f"shelf s{'abcdefghij'[k // 10]}{'abcdefghij'[k % 10]}\n" + "\n".join(
            f"release {n}.0.0" for n in range(12)) for k in range(30))
        self.assertEqual(world_text(read_world(text)), text)
        self.check_wrong(text + "\nrelease 11.0.0", 392)

    def test_full_releases(self):
        span = tuple(((n, 0, 0, 3, 0), (n, 1, 0, 3, 0)) for n in range(17))
        one = need("abcdefghij", span, ("a", "b", "c", "d" * 10), ("is", "keykeykeyk", "valuevalue"))
        self.assertLessEqual(len(f"need {need_text(one)}"), 400)
        full = release(ONE, (one,) * 8, bars=tuple((name, span) for name in "abcd"), withdrawn=True,
                       extras=tuple((name, (one,) * 8) for name in "abcd"),
                       stands=tuple((name, ONE) for name in "abcd"))
        world = (("main", (("core", (full, release(TWO))),)), ("side", (("core", (full,)),)))
        self.assertIs(is_world(world), True)
        self.assertEqual(read_world(world_text(world)), world)
        self.assertEqual(len(world_text(world).split("\n")), 4 + 2 * (2 + 8 + 4 + 4 + 32 + 4) + 1)

    def test_spoiled_texts(self):
        lines = RICH_TEXT.split("\n")
        others = ["", "store side", "store new", "shelf app", "shelf zoo", "release 1.0.0", "release 9.0.0",
                  "withdrawn", "need z *", "bar a *", "bar z *", "option a", "option z", "with z *", "stand a 1.0.0",
                  "stand z 1.0.0"]
        for at in range(len(lines) + 1):
            before, here, after = lines[:at], lines[at:at + 1], lines[at + 1:]
            found = [before, before + after, before + here + here + after, before + after[:1] + here + after[1:]]
            for line in others:
                found += [before + [line] + after, before + [line] + here + after]
            for some in found:
                self.check("\n".join(some))

    def test_spoiled_lines(self):
        for text in ("store a\nshelf b\nrelease 1.0.0\nneed c[x] *\nbar d *",
                     "store a\nshelf b\nrelease 0.1.0\nwithdrawn",
                     "store a\nshelf b\nrelease 1.0.0\noption c\nwith d * if os=a\nstand e 1.0.0\nstore f"):
            for spoilt in spoiled(text, "\n a1.*"):
                self.check(spoilt)


class ConditionsInLinesTest(unittest.TestCase):
    def test_conditions_as_read(self):
        text = "store a\nshelf b\nrelease 1.0.0\nneed c * if (os=a and not arch=b)"
        self.assertEqual(read_world(text)[0][1][0][1][0][1][0][3], read_condition("(os=a and not arch=b)"))


if __name__ == "__main__":
    unittest.main()
