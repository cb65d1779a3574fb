"""Versions, their order and their texts (part 1)."""

from versionjudge.errors import BadText, BadVersion
from versionjudge.reading import read_whole
from versionjudge.values import is_integer

# The sorts of early versions stand at their numbers.
SORTS = ("alpha", "beta", "rc")
WHOLE = 3
FIRST = (0, 0, 0, 0, 0)


def is_version(thing):
    if not isinstance(thing, tuple) or len(thing) != 5:
        return False
    if not all([is_integer(item) and item >= 0 for item in thing]):
        return False
    sort, number = thing[3:]
    return sort < WHOLE or (sort == WHOLE and number == 0)


def check_version(version):
    if not is_version(version):
        raise BadVersion(version)


def is_early(version):
    check_version(version)
    return version[3] != WHOLE


def next_version(version):
    check_version(version)
    a, b, c, sort, number = version
    if sort == WHOLE:
        return (a, b, c + 1, 0, 0)
    return (a, b, c, sort, number + 1)


def version_text(version):
    check_version(version)
    a, b, c, sort, number = version
    if sort == WHOLE:
        return f"{a}.{b}.{c}"
    return f"{a}.{b}.{c}-{SORTS[sort]}.{number}"


def read_version(text):
    return read_whole(text, version_from)


def version_from(reader):
    """Read a version, which other texts may continue."""
    a = reader.number()
    reader.expect(".")
    b = reader.number()
    reader.expect(".")
    c = reader.number()
    if not reader.take("-"):
        return (a, b, c, WHOLE, 0)
    sort = sort_from(reader)
    reader.expect(".")
    return (a, b, c, sort, reader.number())


def sort_from(reader):
    for sort, word in enumerate(SORTS):
        # The first letters differ, so the first one decides which letters are right behind it.
        if reader.take(word[0]):
            reader.expect(word[1:])
            return sort
    raise BadText(reader.at)
