"""The errors of the package: one class for each kind of wrong value or failure."""


class BeltError(ValueError):
    """The base class of all errors of the package."""


class BadNumber(BeltError):
    """A value is no integer, or none of those that are allowed."""


class BadWord(BeltError):
    """A value is no integer from 0 to 65535."""


class BadProgram(BeltError):
    """A value is no program; index tells its first wrong item, None for no tuple of at most 60 items."""

    def __init__(self, index):
        self.index = index


class BadInstruction(BeltError):
    """A value is no instruction."""


class BadState(BeltError):
    """A value is no state."""


class BadWords(BeltError):
    """A value is no tuple of at most 120 words."""


class NotText(BeltError):
    """A value is no string."""


class InvalidText(BeltError):
    """A text cannot be read; line tells its first wrong line, from 1."""

    def __init__(self, line):
        self.line = line


class BadDesign(BeltError):
    """A value is no design."""


class BadEntry(BeltError):
    """A value is no entry."""


class BadKind(BeltError):
    """A value is no kind of instruction, or the kind does not have the place asked for."""


class BadGuesser(BeltError):
    """A value is no guesser."""


class BadDelays(BeltError):
    """A value is no tuple of delays."""


class BadWaits(BeltError):
    """A value cannot be the waits of a design."""


class BadPaths(BeltError):
    """A value cannot be the paths of a design."""


class BadPath(BeltError):
    """A value cannot be a path of a design."""


class BadEntries(BeltError):
    """A value is no ascending tuple of entries as they are asked for."""


class BadTrace(BeltError):
    """A value is no trace; index tells its first wrong item, None for no tuple of at most 200 items."""

    def __init__(self, index):
        self.index = index


class BadBody(BeltError):
    """A value is no body."""


class BadRing(BeltError):
    """A value is no ring of a body."""


class BadOrder(BeltError):
    """A value is no order of a block."""


class NotMade(BeltError):
    """What is asked for does not exist for these arguments."""


class TooLong(BeltError):
    """Something goes on beyond its limit, which most tells."""

    def __init__(self, most):
        self.most = most
