"""Ranges of versions, what two of them make, certificates about them, and their texts (part 2)."""

from versionjudge.errors import BadRange
from versionjudge.reading import read_whole
from versionjudge.values import is_ascending
from versionjudge.versions import FIRST, check_version, is_version, next_version, version_from, version_text

# A sign that begins another one stands behind it, so that the longer one is found first.
SIGNS = (">=", ">", "<=", "<", "=", "^", "~")


def is_range(thing):
    if not isinstance(thing, tuple) or not all([is_pair(pair) for pair in thing]):
        return False
    if any([high is None for _, high in thing[:-1]]):
        return False
    return is_ascending(borders(thing))


def is_pair(thing):
    """Whether a value is a pair of a version and a version or None, in any order of size."""
    if not isinstance(thing, tuple) or len(thing) != 2:
        return False
    low, high = thing
    return is_version(low) and (high is None or is_version(high))


def borders(span):
    """The versions at which a range begins and ends by turns, ascending."""
    return [border for pair in span for border in pair if border is not None]


def range_between(turns):
    """The range that begins at the first of ascending versions, ends at the second one, and so on."""
    highs = turns[1::2]
    if len(turns) % 2 == 1:
        highs = [*highs, None]
    return tuple(zip(turns[::2], highs))


def check_range(span):
    if not is_range(span):
        raise BadRange(span)


def every():
    return ((FIRST, None),)


def only(version):
    return ((version, next_version(version)),)


def has(span, version):
    check_range(span)
    check_version(version)
    return is_in(span, version)


def is_in(span, version):
    """Whether a version is in a range, both known to be right."""
    return any([low <= version and (high is None or version < high) for low, high in span])


def least_in(span):
    check_range(span)
    if span == ():
        return None
    return span[0][0]


def combined(one, other, wanted):
    """The range of the versions that are wanted, by whether they are in one and in other."""
    check_range(one)
    check_range(other)
    turns = []
    inside = False
    # Between two borders that follow each other, all versions are alike.
    for border in sorted(set(borders(one) + borders(other))):
        if wanted(is_in(one, border), is_in(other, border)) != inside:
            turns.append(border)
            inside = not inside
    return range_between(turns)


def joined(one, other):
    return combined(one, other, lambda in_one, in_other: in_one or in_other)


def cut(one, other):
    return combined(one, other, lambda in_one, in_other: in_one and in_other)


def without(one, other):
    return combined(one, other, lambda in_one, in_other: in_one and not in_other)


def judge_within(one, other):
    return certificate_of("within", without(one, other))


def within_holds(one, other, thing):
    return is_certificate(thing, judge_within(one, other))


def judge_same(one, other):
    return certificate_of("same", combined(one, other, lambda in_one, in_other: in_one != in_other))


def same_holds(one, other, thing):
    return is_certificate(thing, judge_same(one, other))


def certificate_of(word, against):
    """The certificate of the word, or the least version of a range that speaks against it."""
    if against == ():
        return (word,)
    return ("version", least_in(against))


def is_certificate(thing, right):
    """Whether any value is the certificate that is right; there is only one for two ranges."""
    if thing != right:
        return False
    # Python calls True and 1 equal; is_version does not.
    return len(right) == 1 or is_version(thing[1])


def range_text(span):
    check_range(span)
    if span == ():
        return f"<{version_text(FIRST)}"
    return " || ".join([pair_text(low, high) for low, high in span])


def pair_text(low, high):
    if high is None:
        return "*" if low == FIRST else f">={version_text(low)}"
    if low == FIRST:
        return f"<{version_text(high)}"
    return f">={version_text(low)} <{version_text(high)}"


def read_range(text):
    return read_whole(text, range_from)


def range_from(reader, behind=None):
    """Read the rows of a range, which end where the text behind comes, if one is given; it begins with a blank."""
    rows = ()
    row = part_from(reader)
    while not (behind is not None and reader.comes(behind)) and reader.take(" "):
        # A part does not begin with a stroke, so the first one decides.
        if reader.take("|"):
            reader.expect("| ")
            rows = joined(rows, row)
            row = part_from(reader)
        else:
            row = cut(row, part_from(reader))
    return joined(rows, row)


def part_from(reader):
    if reader.take("*"):
        return every()
    sign = reader.take_first(SIGNS)
    return range_of_part(sign, version_from(reader))


def range_of_part(sign, version):
    if sign == ">=":
        return at_least(version)
    if sign == ">":
        return at_least(next_version(version))
    if sign == "<=":
        return without(every(), at_least(next_version(version)))
    if sign == "<":
        return without(every(), at_least(version))
    if sign == "=":
        return only(version)
    if sign == "^":
        return ((version, end_of_caret(version)),)
    a, b = version[:2]
    return ((version, (a, b + 1, 0, 0, 0)),)


def at_least(version):
    return ((version, None),)


def end_of_caret(version):
    """The first version behind those that agree with a version up to its first number above 0."""
    a, b, c = version[:3]
    if a > 0:
        return (a + 1, 0, 0, 0, 0)
    if b > 0:
        return (0, b + 1, 0, 0, 0)
    return (0, 0, c + 1, 0, 0)
