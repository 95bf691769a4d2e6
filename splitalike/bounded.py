"""Whether two readers part on rows of small cells alone; all that they can keep is small then, too."""

from splitalike.errors import BadBound, TooGreat
from splitalike.machines import Machine
from splitalike.questions import PART, Question
from splitalike.readers import PASSING

MOST_BOUND = 12


def parted_within(one, other, bound):
    """A shortest row with cells of at most the bound that parts two readers, a tuple of cells, or None."""
    if bound < 0:
        raise BadBound(bound)
    if bound > MOST_BOUND:
        raise TooGreat()
    question = Question(PART)
    moves = Moves((Machine(one), Machine(other)), bound)
    # For each pair of stands, how a shortest row leads to it: the pair before and the last cell.
    before = {moves.begin: (None, None)}
    ahead = [moves.begin]
    while ahead:
        further = []
        for stands in ahead:
            for cell, new, events in moves.of(stands):
                if question.label_of_events(events) is not None:
                    return _row_to(before, stands, cell)
                if new not in before and question.goes_on(events):
                    before[new] = (stands, cell)
                    further.append(new)
        ahead = further
    return None


class Moves:
    """What cells up to a bound lead two readers to."""

    def __init__(self, machines, bound):
        self.begin = (machines[0].begin, machines[1].begin)
        self._machines = machines
        self._bound = bound
        self._known = ({}, {})

    def of(self, stands):
        """(cell, stands, events) behind each cell, or behind one of them if no reader looks at it."""
        ones, others = [self._outcomes(side, stands[side]) for side in (0, 1)]
        if len(ones) == 1:
            ones = ones * len(others)
        elif len(others) == 1:
            others = others * len(ones)
        return [
            (cell, (one[0], other[0]), (one[1], other[1]))
            for cell, (one, other) in enumerate(zip(ones, others))
        ]

    def _outcomes(self, side, stand):
        """The outcomes of one reader behind the cells from 0 to the bound; just one if it looks at none."""
        known = self._known[side]
        if stand not in known:
            machine = self._machines[side]
            most = 0 if machine.lines[stand[0]][0] in PASSING else self._bound
            known[stand] = [machine.step(stand, cell, cell) for cell in range(most + 1)]
        return known[stand]


def _row_to(before, stands, cell):
    """The row that leads to a pair of stands, and this cell behind it."""
    cells = []
    while stands is not None:
        cells.append(cell)
        stands, cell = before[stands]
    return tuple(cells[::-1])
