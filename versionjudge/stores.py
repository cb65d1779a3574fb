"""Needs, releases, stores and worlds, what they show, and their texts (part 4)."""

from versionjudge.errors import BadNeed, BadSight, BadWord, BadWorld
from versionjudge.ranges import is_range, range_from, range_text
from versionjudge.reading import LineReader, read_whole, word_from, words_from
from versionjudge.targets import ALWAYS, condition_from, condition_text, is_condition
from versionjudge.values import are_ascending_words, is_ascending, is_table, is_tuple, is_tuple_of, is_word
from versionjudge.versions import is_version, version_from, version_text

MOST_STORES = 4


def is_need(thing):
    if not is_tuple(thing, 4):
        return False
    name, span, options, condition = thing
    return is_word(name) and is_range(span) and are_ascending_words(options) and is_condition(condition)


def are_needs(thing):
    return is_tuple_of(thing, is_need)


def is_release(thing):
    if not is_tuple(thing, 6):
        return False
    version, needs, bars, extras, stands, withdrawn = thing
    if not is_version(version) or not are_needs(needs) or not is_table(bars, is_range):
        return False
    return is_table(extras, are_needs) and are_stands(stands) and isinstance(withdrawn, bool)


def are_stands(thing):
    """Whether a value is an ascending tuple of pairs of a word and a version."""
    return is_tuple_of(thing, is_stand) and is_ascending(thing)


def is_stand(thing):
    return is_tuple(thing, 2) and is_word(thing[0]) and is_version(thing[1])


def are_releases(thing):
    """Whether a value is what a shelf holds: releases with ascending versions, at least one."""
    if not is_tuple_of(thing, is_release) or thing == ():
        return False
    return is_ascending([release[0] for release in thing])


def is_store(thing):
    return is_tuple(thing, 2) and is_word(thing[0]) and is_table(thing[1], are_releases)


def is_world(thing):
    if not is_tuple_of(thing, is_store) or not 1 <= len(thing) <= MOST_STORES:
        return False
    return len({label for label, _ in thing}) == len(thing)


def check_world(world):
    if not is_world(world):
        raise BadWorld(world)


def check_name_and_sight(name, sight):
    if not is_word(name):
        raise BadWord(name)
    if sight not in ("first", "all"):
        raise BadSight(sight)


def names_of(world):
    check_world(world)
    return names_in(world)


def names_in(world):
    """The names of all shelves of a world that is known to be right."""
    return tuple(sorted({name for _, shelves in world for name, _ in shelves}))


def shown(world, name, sight):
    check_world(world)
    check_name_and_sight(name, sight)
    return shown_in(world, name, sight)


def shown_in(world, name, sight):
    """The shown releases with their labels, where all arguments are known to be right."""
    found = [(label, releases) for label, shelves in world for other, releases in shelves if other == name]
    if sight == "first":
        found = found[:1]
    return tuple([(label, release) for label, releases in found for release in releases])


def stand_ins(world, name, sight):
    check_world(world)
    check_name_and_sight(name, sight)
    others = [(other, shown_in(world, other, sight)) for other in names_in(world) if other != name]
    return tuple(sorted(stand_ins_among(others, name)))


def stand_ins_among(others, name):
    """All (other, label, version, own) for names, given with labels and releases, that can stand in for a name."""
    return [(other, label, release[0], own) for other, releases in others for label, release in releases
            for stood, own in release[4] if stood == name]


def lacking(world):
    check_world(world)
    names = names_in(world)
    releases = [release for name in names for _, release in shown_in(world, name, "all")]
    asked = [need[0] for release in releases for need in all_needs(release)]
    stood = [name for release in releases for name, _ in release[4]]
    return tuple(sorted(set(asked) - set([*names, *stood])))


def all_needs(release):
    """The needs of a release and those of its extras."""
    more = [need for _, needs in release[3] for need in needs]
    return [*release[1], *more]


def need_text(need):
    if not is_need(need):
        raise BadNeed(need)
    name, span, options, condition = need
    text = f"{name}{options_text(options)} {range_text(span)}"
    if condition != ALWAYS:
        text = f"{text} if {condition_text(condition)}"
    return text


def options_text(options):
    """The options in brackets, nothing if there are none."""
    if options == ():
        return ""
    listed = ",".join(options)
    return f"[{listed}]"


def read_need(text):
    return read_whole(text, need_from)


def need_from(reader):
    """Read a need, which ends its line."""
    name = reader.word()
    options = options_from(reader) if reader.comes("[") else ()
    reader.expect(" ")
    span = range_from(reader, " i")
    if not reader.take(" i"):
        return (name, span, options, ALWAYS)
    reader.expect("f ")
    return (name, span, options, condition_from(reader))


def options_from(reader):
    """Read options in brackets."""
    reader.expect("[")
    options = words_from(reader)
    reader.expect("]")
    return options


def world_text(world):
    check_world(world)
    return "\n".join([line for store in world for line in store_lines(store)])


def store_lines(store):
    label, shelves = store
    lines = [f"store {label}"]
    for name, releases in shelves:
        lines.append(f"shelf {name}")
        lines.extend([line for release in releases for line in release_lines(release)])
    return lines


def release_lines(release):
    version, needs, bars, extras, stands, withdrawn = release
    lines = [f"release {version_text(version)}"]
    if withdrawn:
        lines.append("withdrawn")
    lines.extend([f"need {need_text(need)}" for need in needs])
    lines.extend([f"bar {name} {range_text(span)}" for name, span in bars])
    for option, more in extras:
        lines.append(f"option {option}")
        lines.extend([f"with {need_text(need)}" for need in more])
    lines.extend([f"stand {name} {version_text(own)}" for name, own in stands])
    return lines


def read_world(text):
    lines = LineReader(text)
    world = world_from(lines)
    lines.finish()
    return world


def world_from(lines):
    """Read the stores of a world, which other texts may continue."""
    lines.expect("store ")
    stores = [store_from(lines, [])]
    while len(stores) < MOST_STORES and lines.begins("store "):
        stores.append(store_from(lines, [label for label, _ in stores]))
    return tuple(stores)


def store_from(lines, labels):
    """Read a store whose label is none of these."""
    label = lines.read("store ", word_from)
    lines.require(label not in labels)
    return (label, table_from(lines, "shelf ", word_from, releases_from))


def table_from(lines, word, reading, following):
    """Read ascending keys, each in a line that begins with the word, and what follows each of them."""
    pairs = []
    while lines.begins(word):
        key = lines.read(word, reading)
        lines.require(pairs == [] or pairs[-1][0] < key)
        pairs.append((key, following(lines)))
    return tuple(pairs)


def releases_from(lines):
    lines.expect("release ")
    table = table_from(lines, "release ", version_from, contents_from)
    return tuple([(version, *contents) for version, contents in table])


def contents_from(lines):
    """Read the lines of a release behind the one with its version."""
    withdrawn = lines.begins("withdrawn") and lines.read("withdrawn", lambda reader: True)
    needs = rows_from(lines, "need ", need_from)
    bars = ascending_rows_from(lines, "bar ", bar_from, lambda bar: bar[0])
    extras = table_from(lines, "option ", word_from, lambda rest: rows_from(rest, "with ", need_from))
    stands = ascending_rows_from(lines, "stand ", stand_from, lambda stand: stand)
    return (needs, bars, extras, stands, withdrawn)


def rows_from(lines, word, reading):
    """Read all lines that come and begin with the word."""
    rows = []
    while lines.begins(word):
        rows.append(lines.read(word, reading))
    return tuple(rows)


def ascending_rows_from(lines, word, reading, key):
    """Read all lines that come and begin with the word, which must have ascending keys."""
    rows = []
    while lines.begins(word):
        row = lines.read(word, reading)
        lines.require(rows == [] or key(rows[-1]) < key(row))
        rows.append(row)
    return tuple(rows)


def bar_from(reader):
    name = reader.word()
    reader.expect(" ")
    return (name, range_from(reader))


def stand_from(reader):
    name = reader.word()
    reader.expect(" ")
    return (name, version_from(reader))
