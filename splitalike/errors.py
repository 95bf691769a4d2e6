"""The errors of the package. Each keeps its arguments as attributes."""


class SplitError(ValueError):
    """The base class of all errors of the package."""


class BadReader(SplitError):
    """The line with this number, from 0, has no valid form."""

    def __init__(self, number):
        self.number = number


class BadRing(SplitError):
    """The line with this number is on a ring of silent lines alone."""

    def __init__(self, number):
        self.number = number


class BadBegin(SplitError):
    """The line with this number ends or skips before the message has read a cell."""

    def __init__(self, number):
        self.number = number


class TooMany(SplitError):
    """There are so many of something, and that is more than allowed."""

    def __init__(self, count):
        self.count = count


class TooGreat(SplitError):
    """A row or a bound is greater than allowed."""


class NoLine(SplitError):
    """The reader has no line of this name."""

    def __init__(self, name):
        self.name = name


class BadText(SplitError):
    """The line with this number, from 1, of a text has no valid form."""

    def __init__(self, line):
        self.line = line


class BadCell(SplitError):
    """A cell is below 0."""

    def __init__(self, cell):
        self.cell = cell


class BadCount(SplitError):
    """A count is below 0."""

    def __init__(self, count):
        self.count = count


class NoCell(SplitError):
    """The row has no such place."""

    def __init__(self, place):
        self.place = place


class NoReader(SplitError):
    """There is no reader with this number."""

    def __init__(self, number):
        self.number = number


class NothingToUndo(SplitError):
    """There is no deed to take back or to do again."""


class BadBound(SplitError):
    """A bound is below 0."""

    def __init__(self, bound):
        self.bound = bound


class NoRule(SplitError):
    """The reader has no such rule."""

    def __init__(self, rule):
        self.rule = rule
