"""The errors of the package, each under a built-in error alone."""


class NoProcedure(LookupError):
    """There is no PROCEDURE of this number."""

    def __init__(self, number):
        self.number = number


class NoRule(LookupError):
    """The PROCEDURE has no RULE of this number."""

    def __init__(self, number):
        self.number = number


class NoPath(LookupError):
    """The TREE has no node at this PATH."""

    def __init__(self, path):
        self.path = path


class NoEvent(LookupError):
    """The RUN has no EVENT, no value or no MOMENT of this number."""

    def __init__(self, number):
        self.number = number


class NoName(LookupError):
    """There is no such NAME, or no such WORD, there."""

    def __init__(self, name):
        self.name = name


class NothingDone(LookupError):
    """There is nothing to be taken back, done again or chosen."""


class BadLine(ValueError):
    """The line of this number can not stand there."""

    def __init__(self, number):
        self.number = number


class CanNot(ValueError):
    """What is asked for can not be had."""


class TooMany(ValueError):
    """There is more than the document lets be counted."""


class Unfit(ValueError):
    """What is passed in does not fit the rest."""
