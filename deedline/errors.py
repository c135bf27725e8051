"""The errors that Deedline raises.

No error puts what it keeps into words: it may be of any kind and size.
"""


class DeedError(ValueError):
    """Something that is no part of Deedline was passed."""


class InvalidText(DeedError):
    """No text, or no key."""

    def __init__(self, value):
        self.value = value


class InvalidCommand(DeedError):
    """No command, or not one that is done here."""


class InvalidStore(DeedError):
    """No store, no plain store, or no entry."""


class InvalidOperation(DeedError):
    """A call that is not let with these arguments, or not now."""


class ParseError(DeedError):
    """Signs that cannot be read from an index on."""

    def __init__(self, index):
        self.index = index


class InvalidTime(ArithmeticError):
    """No time, or one that lies too early."""

    def __init__(self, value):
        self.value = value


class InvalidNumber(ArithmeticError):
    """No integer, or one that is out of its bounds."""

    def __init__(self, value):
        self.value = value


class TooMany(OverflowError):
    """More than there can be."""

    def __init__(self, limit):
        self.limit = limit


class UnknownName(KeyError):
    """A name that nothing has."""

    def __init__(self, asked):
        self.asked = asked


class BadLetters(IndexError):
    """Letters with a bad sign at an index."""

    def __init__(self, index):
        self.index = index


class PowerLost(RuntimeError):
    """The power was lost behind so many steps."""

    def __init__(self, count):
        self.count = count


class Refused(LookupError):
    """Something that is not to be had now, for a reason."""

    def __init__(self, reason):
        self.reason = reason
