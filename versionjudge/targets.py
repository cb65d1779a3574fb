"""Targets, conditions, certificates about two conditions for all targets, and texts (part 3)."""

from versionjudge.errors import BadCondition, BadTarget
from versionjudge.reading import LAST_WORD, read_whole
from versionjudge.values import is_table, is_tuple, is_tuple_of, is_word

ALWAYS = ("always",)


def is_target(thing):
    return is_table(thing, is_word)


def check_target(target):
    if not is_target(target):
        raise BadTarget(target)


def is_condition(thing):
    if not isinstance(thing, tuple) or thing == ():
        return False
    kind, parts = thing[0], thing[1:]
    if kind == "always":
        return parts == ()
    if kind == "is":
        return len(parts) == 2 and is_tuple_of(parts, is_word)
    if kind == "not":
        return len(parts) == 1 and is_condition(parts[0])
    return kind in ("both", "either") and len(parts) == 2 and is_tuple_of(parts, is_condition)


def check_condition(condition):
    if not is_condition(condition):
        raise BadCondition(condition)


def does_hold(condition, target):
    check_condition(condition)
    check_target(target)
    return holds_at(condition, target)


def holds_at(condition, target):
    """Whether a condition holds at a target, both known to be right."""
    kind = condition[0]
    if kind == "always":
        return True
    if kind == "is":
        return condition[1:] in target
    if kind == "not":
        return not holds_at(condition[1], target)
    if kind == "both":
        return holds_at(condition[1], target) and holds_at(condition[2], target)
    return holds_at(condition[1], target) or holds_at(condition[2], target)


def judge_alike(one, other):
    check_two(one, other)
    return certificate_about(one, other, "alike", are_different)


def alike_holds(one, other, thing):
    check_two(one, other)
    return certifies(one, other, "alike", are_different, thing)


def judge_condition(one, other):
    check_two(one, other)
    return certificate_about(one, other, "within", is_first_only)


def condition_holds(one, other, thing):
    check_two(one, other)
    return certifies(one, other, "within", is_first_only, thing)


def check_two(one, other):
    check_condition(one)
    check_condition(other)


def are_different(in_one, in_other):
    return in_one != in_other


def is_first_only(in_one, in_other):
    return in_one and not in_other


def certificate_about(one, other, word, is_against):
    """The certificate of the word, or a target that speaks against it."""
    for target in enough_targets([*pairs_of(one), *pairs_of(other)]):
        if is_against(holds_at(one, target), holds_at(other, target)):
            return ("target", target)
    return (word,)


def certifies(one, other, word, is_against, thing):
    """Whether any value is the certificate of the word, or one with a target that speaks against it."""
    if thing == (word,):
        return certificate_about(one, other, word, is_against) == (word,)
    if not is_tuple(thing, 2) or thing[0] != "target" or not is_target(thing[1]):
        return False
    return is_against(holds_at(one, thing[1]), holds_at(other, thing[1]))


def pairs_of(condition):
    """All pairs of a key and a value that a condition asks for."""
    if condition[0] == "is":
        return [condition[1:]]
    return [pair for part in condition[1:] for pair in pairs_of(part)]


def enough_targets(pairs):
    """Targets such that each other one is like one of them as far as these pairs go."""
    targets = [()]
    for key in sorted({pair[0] for pair in pairs}):
        mine = [(pair,) for pair in sorted(set(pairs)) if pair[0] == key]
        targets = [target + more for target in targets for more in [(), *mine]]
    return targets


def condition_text(condition):
    check_condition(condition)
    return text_of(condition)


def text_of(condition):
    """The text of a condition that is known to be right."""
    kind = condition[0]
    if kind == "always":
        return "always"
    if kind == "is":
        return f"{condition[1]}={condition[2]}"
    if kind == "not":
        return f"not {text_of(condition[1])}"
    sign = "and" if kind == "both" else "or"
    return f"({text_of(condition[1])} {sign} {text_of(condition[2])})"


def target_text(target):
    check_target(target)
    return ",".join([f"{key}={value}" for key, value in target])


def read_condition(text):
    return read_whole(text, condition_from)


def condition_from(reader):
    """Read a condition, which other texts may continue."""
    if reader.take("("):
        one = condition_from(reader)
        kind = joint_from(reader)
        other = condition_from(reader)
        reader.expect(")")
        return (kind, one, other)
    word = reader.word()
    # Both words can be keys, too, so what stands behind them decides.
    if word == "not" and reader.take(" "):
        return ("not", condition_from(reader))
    if word == "always" and not reader.comes("="):
        return ALWAYS
    reader.expect("=")
    return ("is", word, reader.word())


def joint_from(reader):
    """Read what stands between two conditions, and return the kind of condition that they make."""
    reader.expect(" ")
    if reader.take("a"):
        reader.expect("nd ")
        return "both"
    reader.expect("or ")
    return "either"


def read_target(text):
    # The text of () is the only one that does not begin with a key.
    return () if text == "" else read_whole(text, target_from)


def target_from(reader):
    """Read the pairs of a target that is not ()."""
    pairs = [key_and_value_from(reader, "")]
    # Behind the last word of all no key is right.
    while pairs[-1][0] != LAST_WORD and reader.take(","):
        pairs.append(key_and_value_from(reader, pairs[-1][0]))
    return tuple(pairs)


def key_and_value_from(reader, below):
    key = reader.word(below)
    reader.expect("=")
    return (key, reader.word())
