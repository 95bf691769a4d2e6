"""A desk: cells are handed to several readers at once, and can be taken back."""

from splitalike.errors import NoReader, NothingToUndo, TooMany
from splitalike.machines import Machine
from splitalike.readers import MOST_READERS
from splitalike.rows import Row, row_of
from splitalike.runs import course_begun, course_over, cuts, parting_place, told_of


class Desk:
    """Several readers on one row, which is fed piece by piece."""

    def __init__(self, readers):
        if len(readers) > MOST_READERS:
            raise TooMany(len(readers))
        self._readers = tuple(readers)
        self._machines = tuple([Machine(reader) for reader in readers])
        self._fed = Row()
        self._courses = [course_begun(machine) for machine in self._machines]
        # Deeds as (the row that is added, courses): those before a deed that is done, or behind one
        # that was taken back.
        self._done = []
        self._undone = []

    def feed(self, cell):
        """Adds one cell."""
        self._add(Row([cell]))

    def feed_many(self, count, cell):
        """Adds so many equal cells."""
        self._add(Row.of_runs([(count, cell)]))

    def feed_row(self, row):
        """Adds the cells of a row."""
        self._add(row_of(row))

    def fed(self):
        """The row that was fed so far."""
        return self._fed

    def told(self, number):
        """What a reader tells of the row."""
        self._check(number)
        return told_of(self._courses[number])

    def cuts_of(self, number):
        """The places of all cuts of a reader on the row."""
        self._check(number)
        return cuts(self._readers[number], self._fed)

    def parting(self, one, other):
        """The first place of the row at which two readers part, or None."""
        self._check(one)
        self._check(other)
        return parting_place(self._readers[one], self._readers[other], self._fed)

    def undo(self):
        """Takes back the last deed."""
        if len(self._done) == 0:
            raise NothingToUndo()
        row, courses = self._done.pop()
        self._undone.append((row, self._courses))
        self._fed = self._fed.part(0, self._fed.size - row.size)
        self._courses = courses

    def redo(self):
        """Does the last deed again that was taken back."""
        if len(self._undone) == 0:
            raise NothingToUndo()
        row, courses = self._undone.pop()
        self._done.append((row, self._courses))
        self._fed = self._fed + row
        self._courses = courses

    def _add(self, row):
        # The whole row comes first: if it is too great, nothing has been changed yet.
        whole = self._fed + row
        courses = [course_over(machine, course, row) for machine, course in zip(self._machines, self._courses)]
        self._done.append((row, self._courses))
        self._undone = []
        self._fed = whole
        self._courses = courses

    def _check(self, number):
        if not 0 <= number < len(self._readers):
            raise NoReader(number)
