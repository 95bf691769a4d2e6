"""Rows of cells, kept as runs of equal cells, so that counts may be very large."""

from splitalike.errors import BadCell, BadCount, NoCell, TooGreat

MOST_RUNS = 1000
MOST_CELLS = 1000


class Row:
    """A finite sequence of integers that are at least 0. It never changes."""

    def __init__(self, cells=()):
        for cell in cells:
            if cell < 0:
                raise BadCell(cell)
        self.runs = _joined([(1, cell) for cell in cells])

    @staticmethod
    def of_runs(runs):
        """The row that is told by pairs (count, cell)."""
        for count, cell in runs:
            if count < 0:
                raise BadCount(count)
            if cell < 0:
                raise BadCell(cell)
        row = Row()
        row.runs = _joined(runs)
        return row

    def __eq__(self, other):
        return isinstance(other, Row) and self.runs == other.runs

    @property
    def size(self):
        """The number of cells."""
        return sum([count for count, _ in self.runs])

    def cell_at(self, place):
        """The cell behind this place."""
        if place >= 0:
            end = 0
            for count, cell in self.runs:
                end = end + count
                if place < end:
                    return cell
        raise NoCell(place)

    def part(self, start, stop):
        """The row of the cells from one place to another."""
        size = self.size
        for place in (start, stop):
            if place < 0 or place > size:
                raise NoCell(place)
        pieces = []
        begin = 0
        for count, cell in self.runs:
            end = begin + count
            inside = min(end, stop) - max(begin, start)
            pieces.append((max(0, inside), cell))
            begin = end
        return Row.of_runs(pieces)

    def cells(self):
        """The list of all cells."""
        if self.size > MOST_CELLS:
            raise TooGreat()
        return [cell for count, cell in self.runs for _ in range(count)]

    def __add__(self, other):
        if not isinstance(other, Row):
            return NotImplemented
        return Row.of_runs(self.runs + other.runs)

    def __mul__(self, times):
        if times < 0:
            raise BadCount(times)
        many = len(self.runs)
        if many < 2:
            return Row.of_runs([(count * times, cell) for count, cell in self.runs])
        # Where the end meets the next beginning, one run may be saved, but no more than
        # one: so this is surely too great, and a huge number of times is not written out.
        if (many - 1) * times >= MOST_RUNS:
            raise TooGreat()
        return Row.of_runs(self.runs * times)

    def __contains__(self, x):
        return x in [cell for _, cell in self.runs]


def row_of(row):
    """The row that is handed in as a Row, or as a list or tuple of cells."""
    return row if isinstance(row, Row) else Row(row)


def short_row_of(row):
    """The same, of a row that may have no more than so many cells."""
    whole = row_of(row)
    if whole.size > MOST_CELLS:
        raise TooGreat()
    return whole


def _joined(pairs):
    """The runs of these pairs: none is empty, and neighbours have unlike cells."""
    runs = []
    for count, cell in pairs:
        if count == 0:
            continue
        if runs and runs[-1][1] == cell:
            runs[-1] = (runs[-1][0] + count, cell)
        else:
            runs.append((count, cell))
    if len(runs) > MOST_RUNS:
        raise TooGreat()
    return tuple(runs)
