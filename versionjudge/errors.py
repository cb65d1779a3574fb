"""The errors of the package: one class for each kind of failure."""


class VersionError(Exception):
    """What all errors of the package have in common."""


class BadWord(VersionError):
    """A value that is not a word."""

    def __init__(self, thing):
        self.thing = thing


class BadVersion(VersionError):
    """A value that is not a version."""

    def __init__(self, thing):
        self.thing = thing


class BadRange(VersionError):
    """A value that is not a range."""

    def __init__(self, thing):
        self.thing = thing


class BadCondition(VersionError):
    """A value that is not a condition."""

    def __init__(self, thing):
        self.thing = thing


class BadTarget(VersionError):
    """A value that is not a target."""

    def __init__(self, thing):
        self.thing = thing


class BadNeed(VersionError):
    """A value that is not a need."""

    def __init__(self, thing):
        self.thing = thing


class BadSight(VersionError):
    """A value that is not a sight."""

    def __init__(self, thing):
        self.thing = thing


class BadWorld(VersionError):
    """A value that is not a world."""

    def __init__(self, thing):
        self.thing = thing


class BadAsks(VersionError):
    """A value that is not asks."""

    def __init__(self, thing):
        self.thing = thing


class BadNumber(VersionError):
    """A value that is not a position, or not a state number."""

    def __init__(self, thing):
        self.thing = thing


class BadChoice(VersionError):
    """A value that is not a choice."""

    def __init__(self, thing):
        self.thing = thing


class BadProblem(VersionError):
    """A value that is not a problem."""

    def __init__(self, thing):
        self.thing = thing


class BadBar(VersionError):
    """A value that is not a bar."""

    def __init__(self, thing):
        self.thing = thing


class BadLines(VersionError):
    """A value that is not lines."""

    def __init__(self, thing):
        self.thing = thing


class BadStory(VersionError):
    """A value that is not a story, with the first position at which it is wrong."""

    def __init__(self, at):
        self.at = at


class BadLock(VersionError):
    """A value that is not a lock."""

    def __init__(self, thing):
        self.thing = thing


class BadTargets(VersionError):
    """A value that is not a tuple of distinct targets."""

    def __init__(self, thing):
        self.thing = thing


class BadDeed(VersionError):
    """A value that is not a deed, or a deed that is not possible."""

    def __init__(self, thing):
        self.thing = thing


class BadText(VersionError):
    """A value that is not a right text, with the first position, or line, at which it is wrong."""

    def __init__(self, at):
        self.at = at


class NotRight(VersionError):
    """A choice that is not right."""

    def __init__(self, thing):
        self.thing = thing


class NoChoice(VersionError):
    """Nothing can be chosen, with a certificate for this."""

    def __init__(self, certificate):
        self.certificate = certificate


class NothingToUndo(VersionError):
    """No deed is left to undo."""

    # Without an __init__ of its own it would take any arguments, as Exception does.
    def __init__(self):
        pass


class NothingToRedo(VersionError):
    """No undone deed is left to do again."""

    # Without an __init__ of its own it would take any arguments, as Exception does.
    def __init__(self):
        pass
