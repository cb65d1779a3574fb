"""Values of all kinds for the tests, and values that differ from a right one in one place."""

from versionjudge.desks import Desk

# Two desks, of which the second one has something installed, and deeds to undo and to redo.
DESK = Desk((("main", (("core", (((1, 0, 0, 3, 0), (), (), (), (), False),)),)),), ((), (), (), ("newest", "all",
                                                                                                 False)))
BUSY = DESK.copied()
BUSY.do(("install",))
BUSY.do(("manner", ("oldest", "all", True)))
BUSY.do(("target", (("a", "b"),)))
BUSY.undo()


def nested(depth):
    value = 7
    for level in range(depth):
        value = [(value,), [value], {"a": value}][level % 3]
    return value


ANY_VALUES = [
    None, True, False, 0, 1, -1, 3, 10 ** 39, -(10 ** 39), "", " ", "\n", "a", "abc", "version", "within", "same",
    "1.2.3", "x" * 2000, (), [], {}, ((),), ([],), [()], (None,), (True,), (0,), ("version",), ["within"],
    ("within",), ("same",), ("alike",), ("version", None), ("version", ()), ("within", None), ((), ()),
    (0, 0, 0, 3), (0, 0, 0, 3, 0, 0), [0, 0, 0, 3, 0], "00030", {0: 0, 1: 0, 2: 0, 3: 3, 4: 0}, {"a": [1, (2,)]},
    (1, 2, 3, "3", 0), (1, 2, 3, None, 0), ((1,), 2, 3, 3, 0), (1, 2, 3, 3, False), ({}, [], (), "", None),
    tuple(range(3000)), list(range(3000)), nested(13), (nested(13), nested(13)), [nested(13)] * 200,
    DESK, BUSY, (DESK,), [BUSY], {"a": DESK}, ("version", DESK), (DESK, DESK), (0, 0, 0, 3, DESK),
]

PARTS = [None, True, False, 0, 1, 2, -1, 10 ** 39, "", "a", "0", (), [], {}, (0,), [0], DESK]


def changed(value):
    """Values that differ from a value of nested tuples in one place, perhaps only in what Python calls equal."""
    found = list(PARTS)
    if isinstance(value, int) and value in (0, 1):
        found.append(bool(value))
    if not isinstance(value, tuple):
        return found
    found.append(list(value))
    for at, item in enumerate(value):
        before, after = value[:at], value[at + 1:]
        found.append(before + after)
        found.append(before + (item, item) + after)
        found.append(before + after[:1] + (item,) + after[1:])
        found.extend(before + (other,) + after for other in changed(item))
    found.extend(value + (part,) for part in PARTS)
    return found


def exactly(value):
    """Something that is equal for two values only if they are the same in kind, too."""
    if isinstance(value, (tuple, list)):
        return (type(value).__name__, [exactly(item) for item in value])
    if isinstance(value, dict):
        return ("dict", [(exactly(key), exactly(item)) for key, item in value.items()])
    return (type(value).__name__, value)


def wrong_ones(right):
    """The values of all kinds, and the changed forms of right values, that are not one of these values."""
    taken = [exactly(value) for value in right]
    many = ANY_VALUES + [value for one in right for value in changed(one)]
    return [value for value in many if exactly(value) not in taken]
