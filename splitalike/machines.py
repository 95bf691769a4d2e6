"""What a reader stands at on a row, and where the next cells lead it.

A stand is (name of a line that waits for cells, kept, left): the kept number or None, and the
number of cells that the line has still to go over. An outcome is (stand, event): the event is
CUT, REFUSE or None, and the stand is None behind a refusal.

On a given row, kept and left are integers. Where all rows are searched at once, one of them may
also be a pair (least, step), for any one of least, least + step, least + 2 * step and so on (a
step of 0: just least), or a string, for a number that another reader has a hand in, too.
"""

from splitalike.readers import READING

CUT = "cut"
REFUSE = "refuse"


class Machine:
    """A reader, ready to run."""

    def __init__(self, reader):
        self.lines = {name: line for name, line in reader.lines}
        self.first = reader.lines[0][0]
        self.begin = self.come(self.first, None)[0]

    def come(self, name, kept):
        """The outcome of coming to this line: silent lines are gone through at once."""
        event = None
        line = self.lines[name]
        while line[0] not in READING:
            word = line[0]
            if word == "refuse":
                return (None, REFUSE)
            if word == "skip":
                left = _length(kept, line[1])
                if left is None:
                    return (None, REFUSE)
                if left != 0:
                    return ((name, None, left), event)
                name, kept = line[2], None
            elif word == "cut":
                event = CUT
                name, kept = self.first, None
            elif word == "set":
                name, kept = line[2], line[1]
            else:
                name = line[2] if _is_at_most(kept, line[1]) else line[3]
            line = self.lines[name]
        return ((name, kept, line[1] if line[0] == "jump" else 1), event)

    def behind(self, stand, cell, taken):
        """The outcome behind the last cell that the line goes over; a take keeps `taken` of it."""
        name, kept, _ = stand
        line = self.lines[name]
        word = line[0]
        if word == "case":
            return self.come(_way(line, cell), kept)
        if word == "take":
            kept = taken
        elif word == "rest":
            kept = cell % line[1]
        elif word == "cap":
            kept = min(cell, line[1])
        return self.come(line[-1], kept)

    def step(self, stand, cell, taken):
        """The outcome behind one cell, if it is known how many cells are left."""
        name, kept, left = stand
        if left > 1:
            return ((name, kept, left - 1), None)
        return self.behind(stand, cell, taken)

    def after(self, stand, cell, taken):
        """All outcomes behind one cell: there are two where a skip may end or go on."""
        name, _, left = stand
        if isinstance(left, str):
            return [(stand, None)]
        if isinstance(left, int):
            return [self.step(stand, cell, taken)]
        least, step = left
        if least > 1:
            return [((name, None, (least - 1, step)), None)]
        ended = self.behind(stand, cell, taken)
        if step == 0:
            return [ended]
        return [ended, ((name, None, (step, step)), None)]

    def ahead(self, stand, cell, count):
        """(passed, outcome) of so many equal cells, up to the first of them behind which there is an event."""
        passed = 0
        seen = {}
        while passed < count:
            if stand in seen:
                # There is no event on this ring, so whole rounds of it change nothing.
                passed = count - (count - passed) % (passed - seen[stand])
                seen = {}
                continue
            seen[stand] = passed
            name, kept, left = stand
            cells = min(left, count - passed)
            passed = passed + cells
            if cells < left:
                stand = (name, kept, left - cells)
            else:
                stand, event = self.behind(stand, cell, cell)
                if event is not None:
                    return (passed, (stand, event))
        return (passed, (stand, None))


def _length(kept, more):
    """How many cells a skip passes, or None if it refuses."""
    if kept is None or isinstance(kept, str):
        return kept
    if isinstance(kept, int):
        return kept + more if kept + more >= 0 else None
    return (kept[0] + more, kept[1])


def _is_at_most(kept, number):
    # A number that is not known is greater than all that readers name.
    return isinstance(kept, int) and kept <= number


def _way(line, cell):
    for value, name in line[1]:
        if value == cell:
            return name
    return line[2]
