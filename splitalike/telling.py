"""Which readers some rows tell apart, and which of the rows are enough to do so."""

from itertools import combinations

from splitalike.choices import shares
from splitalike.errors import TooMany
from splitalike.machines import Machine
from splitalike.readers import MOST_READERS
from splitalike.rows import row_of, short_row_of
from splitalike.runs import shown

MOST_ROWS = 12


def told_apart(readers, rows):
    """The pairs of numbers of readers that some of the rows tell apart, in order."""
    return [pair for pair, _ in _tellers(readers, rows)]


def least_rows(readers, rows):
    """The numbers of the rows of the first least set that tells as much as all, ascending."""
    tellers = [numbers for _, numbers in _tellers(readers, rows)]
    for many in range(len(rows)):
        for chosen in combinations(range(len(rows)), many):
            if all([shares(chosen, numbers) for numbers in tellers]):
                return chosen
    return tuple(range(len(rows)))


def _tellers(readers, rows):
    """(pair, numbers of the rows that tell it apart) for all pairs of readers that are told apart."""
    short_rows = _checked(readers, rows)
    shows = []
    for reader in readers:
        machine = Machine(reader)
        shows.append([shown(machine, row) for row in short_rows])
    found = []
    for one, other in combinations(range(len(readers)), 2):
        numbers = [number for number in range(len(rows)) if shows[one][number] != shows[other][number]]
        if numbers:
            found.append(((one, other), numbers))
    return found


def _checked(readers, rows):
    """The rows, if there are not too many of anything."""
    # All rows are looked at before the first one is measured.
    whole_rows = [row_of(row) for row in rows]
    short_rows = [short_row_of(row) for row in whole_rows]
    if len(readers) > MOST_READERS:
        raise TooMany(len(readers))
    if len(rows) > MOST_ROWS:
        raise TooMany(len(rows))
    return short_rows
