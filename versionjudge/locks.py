"""Locks, which keep what was chosen, their certificates, their texts, and what differs between two (part 11)."""

from versionjudge.asks import check_asks
from versionjudge.bars import is_met_by
from versionjudge.errors import BadChoice, BadLock, NotRight
from versionjudge.grounds import grounds_of
from versionjudge.problems import is_right_for
from versionjudge.reading import DIGITS, LineReader
from versionjudge.scenes import NONE, OFF_AT, ON_AT
from versionjudge.stores import ascending_rows_from, options_from, options_text
from versionjudge.targets import is_target, target_from, target_text
from versionjudge.values import (
    are_ascending_words, is_ascending, is_integer, is_position, is_state_tuple, is_tuple, is_tuple_of, is_word,
)
from versionjudge.versions import is_version, version_from
from versionjudge.wording import text_of_state


def is_lock(thing):
    if not is_tuple(thing, 2) or not is_target(thing[0]) or not is_tuple_of(thing[1], is_entry):
        return False
    return is_ascending([entry[0] for entry in thing[1]])


def is_entry(thing):
    return is_tuple(thing, 3) and is_word(thing[0]) and is_package_state(thing[1]) and are_ascending_words(thing[2])


def is_package_state(thing):
    """Whether a value is a state with a version, of any package."""
    if is_tuple(thing, 3):
        return thing[0] == "own" and is_word(thing[1]) and is_version(thing[2])
    if not is_tuple(thing, 5) or thing[0] != "for":
        return False
    return is_tuple_of(thing[1:3], is_word) and is_tuple_of(thing[3:], is_version)


def check_lock(lock):
    if not is_lock(lock):
        raise BadLock(lock)


def lock_of(world, asks, choice):
    grounds = grounds_of(world, asks)
    if not is_state_tuple(grounds.problem[0], choice):
        raise BadChoice(choice)
    if not is_right_for(grounds.problem, choice):
        raise NotRight(choice)
    return (asks[1], entries_of(grounds.scene, choice))


def entries_of(scene, choice):
    """The entries of the lock of a right choice."""
    entries = []
    for name in sorted(scene.names):
        at = scene.places[(name, "")]
        state = scene.states[at][choice[at]]
        if state != NONE:
            entries.append((name, state, options_on(scene, choice, name)))
    return tuple(entries)


def options_on(scene, choice, name):
    """The options of a name that are on, which stand in ascending order among the variables."""
    return tuple([option for i, (owner, option) in enumerate(scene.variables)
                  if owner == name and option != "" and choice[i] == ON_AT])


def choice_of(world, asks, lock):
    scene = grounds_of(world, asks).scene
    check_lock(lock)
    return choice_described(scene, lock)


def choice_described(scene, lock):
    """The choice that a lock describes, None if there is none."""
    if not all([is_entry_there(scene, entry) for entry in lock[1]]):
        return None
    held = {(name, ""): state for name, state, _ in lock[1]}
    switched = {(name, option): True for name, _, options in lock[1] for option in options}
    choice = []
    for variable, few in zip(scene.variables, scene.states):
        if variable[1] == "":
            choice.append(few.index(held.get(variable, NONE)))
        else:
            choice.append(ON_AT if variable in switched else OFF_AT)
    return tuple(choice)


def is_entry_there(scene, entry):
    """Whether the name of an entry is reached and has its state, and its options are variables."""
    name, state, options = entry
    if (name, "") not in scene.places or state not in scene.states[scene.places[(name, "")]]:
        return False
    return all([(name, option) in scene.places for option in options])


def judge_lock(world, asks, lock):
    grounds = grounds_of(world, asks)
    check_lock(lock)
    if grounds.scene.target != lock[0]:
        return ("target",)
    for position, entry in enumerate(lock[1]):
        if not is_entry_there(grounds.scene, entry):
            return ("entry", position)
    choice = choice_described(grounds.scene, lock)
    for j, bar in enumerate(grounds.problem[1]):
        if is_met_by(bar, choice):
            return ("bar", j)
    return ("kept", choice)


def lock_holds(world, asks, lock, thing):
    grounds = grounds_of(world, asks)
    check_lock(lock)
    if is_tuple(thing, 1):
        return thing[0] == "target" and grounds.scene.target != lock[0]
    if not is_tuple(thing, 2):
        return False
    kind, told = thing
    if kind == "entry":
        return is_position(told, len(lock[1])) and not is_entry_there(grounds.scene, lock[1][told])
    choice = choice_described(grounds.scene, lock)
    if choice is None:
        return False
    if kind == "bar":
        bars = grounds.problem[1]
        return is_position(told, len(bars)) and is_met_by(bars[told], choice)
    if kind != "kept" or grounds.scene.target != lock[0]:
        return False
    # Python calls True and 1 equal; the document does not.
    return is_tuple_of(told, is_integer) and told == choice and is_right_for(grounds.problem, choice)


def with_kept(asks, lock):
    check_asks(asks)
    check_lock(lock)
    wishes, target, _, manner = asks
    kept = tuple([(name, state[1:]) for name, state, _ in lock[1] if state[0] == "own"])
    return (wishes, target, kept, manner)


def changes(lock, other):
    check_lock(lock)
    check_lock(other)
    before = {name: (state, options) for name, state, options in lock[1]}
    after = {name: (state, options) for name, state, options in other[1]}
    return tuple([(name, before.get(name), after.get(name)) for name in sorted(set([*before, *after]))
                  if before.get(name) != after.get(name)])


def lock_text(lock):
    check_lock(lock)
    return "\n".join([target_line("target", lock[0]), *[entry_line(entry) for entry in lock[1]]])


def target_line(word, target):
    """A line with a word and the text of a target that is not ()."""
    return word if target == () else f"{word} {target_text(target)}"


def entry_line(entry):
    name, state, options = entry
    line = f"{name} for {text_of_state(state)}" if state[0] == "for" else f"{name} {text_of_state(state)}"
    return line if options == () else f"{line} {options_text(options)}"


def read_lock(text):
    return lock_from(LineReader(text))


def lock_from(lines):
    """Read a lock, with all lines that are left."""
    target = read_target_line(lines, "target")
    return (target, ascending_rows_from(lines, "", entry_from, lambda entry: entry[0]))


def read_target_line(lines, word):
    """Read a line with a word, and with a target if more follows."""
    lines.expect(word)
    return lines.read(word, lambda reader: target_from(reader) if reader.take(" ") else ())


def entry_from(reader):
    name = reader.word()
    reader.expect(" ")
    state = state_from(reader)
    if not reader.take(" "):
        return (name, state, ())
    return (name, state, options_from(reader))


def state_from(reader):
    """Read a state with a version, which other texts may continue."""
    word = reader.word()
    reader.expect(" ")
    # A store may be called "for", too; then a version follows.
    if word != "for" or any([reader.comes(digit) for digit in DIGITS]):
        return ("own", word, version_from(reader))
    other = reader.word()
    reader.expect(" ")
    label = reader.word()
    reader.expect(" ")
    version = version_from(reader)
    reader.expect(" as ")
    return ("for", other, label, version, version_from(reader))
