"""What integers, words, tuples, tables, ascending values and choices are ([0.2])."""


def is_integer(thing):
    # Python counts the bools among the integers; the document does not.
    return isinstance(thing, int) and not isinstance(thing, bool)


def is_position(thing, many):
    """Whether a value is a position among so many."""
    return is_integer(thing) and 0 <= thing < many


def is_word(thing):
    if not isinstance(thing, str) or not 1 <= len(thing) <= 10:
        return False
    return all(["a" <= letter <= "z" for letter in thing])


def is_ascending(things):
    """Whether values that Python can sort are sorted, without duplicates."""
    return all([one < other for one, other in zip(things, things[1:])])


def is_tuple(thing, many):
    """Whether a value is a tuple of so many items."""
    return isinstance(thing, tuple) and len(thing) == many


def is_tuple_of(thing, fits):
    """Whether a value is a tuple whose items all fit."""
    return isinstance(thing, tuple) and all([fits(item) for item in thing])


def are_ascending_words(thing):
    """Whether a value is an ascending tuple of words."""
    return is_tuple_of(thing, is_word) and is_ascending(thing)


def is_table(thing, fits):
    """Whether a value is a tuple of pairs of a word and something that fits, with ascending words."""
    if not isinstance(thing, tuple) or not all([is_tuple(pair, 2) for pair in thing]):
        return False
    if not all([is_word(key) and fits(value) for key, value in thing]):
        return False
    return is_ascending([key for key, _ in thing])


def is_state_tuple(sizes, thing):
    """Whether a value is a tuple with a state below each of the sizes."""
    return is_tuple(thing, len(sizes)) and all([is_position(state, size) for state, size in zip(thing, sizes)])
