"""Whether two readers are alike, or the same, on all rows; and rows on which they are not."""

from splitalike.questions import DIFFER, PART, Question
from splitalike.rows import short_row_of
from splitalike.runs import first_unlike
from splitalike.searches import Search


def parted(one, other):
    """A shortest row that parts two readers, a tuple of cells, or None if they are alike."""
    return Search(one, other, Question(PART)).row()


def differing(one, other):
    """A shortest row on which two readers differ, a tuple of cells, or None if they are the same."""
    return Search(one, other, Question(DIFFER)).row()


def differing_place(one, other, row):
    """The first place of a row at which two readers differ, or None."""
    place, events = first_unlike(one, other, short_row_of(row))
    # Where both refuse, nothing more is compared.
    return place if events and events[0] != events[1] else None
