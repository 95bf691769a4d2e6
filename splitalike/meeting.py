"""Which lines of two readers go over the same cell on some row, and rows on which they do."""

from splitalike.errors import NoLine
from splitalike.questions import MEET, MEET_BEYOND, Question
from splitalike.searches import Search


def meets(one, other):
    """All pairs of names of lines that meet on some row, in order."""
    return _pairs(one, other, MEET)


def meets_beyond(one, other):
    """All pairs of names of lines that meet beyond on some row, in order."""
    return _pairs(one, other, MEET_BEYOND)


def meeting(one, other, name, second):
    """A shortest row on which these lines meet, a tuple of cells, or None."""
    return _row(one, other, name, second, MEET)


def meeting_beyond(one, other, name, second):
    """A shortest row on which these lines meet beyond, a tuple of cells, or None."""
    return _row(one, other, name, second, MEET_BEYOND)


def _pairs(one, other, asked):
    found = Search(one, other, Question(asked)).labels()
    return [(name, second) for name in one.names() for second in other.names() if (name, second) in found]


def _row(one, other, name, second, asked):
    for reader, own in ((one, name), (other, second)):
        if own not in reader.names():
            raise NoLine(own)
    return Search(one, other, Question(asked, (name, second))).row()
