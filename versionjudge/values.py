"""What integers, words and ascending values are ([0.2])."""


def is_integer(thing):
    # Python counts the bools among the integers; the document does not.
    return isinstance(thing, int) and not isinstance(thing, bool)


def is_word(thing):
    if not isinstance(thing, str) or not 1 <= len(thing) <= 10:
        return False
    return all(["a" <= letter <= "z" for letter in thing])


def is_ascending(things):
    """Whether values that Python can sort are sorted, without duplicates."""
    return all([one < other for one, other in zip(things, things[1:])])
