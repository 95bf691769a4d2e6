"""What two readers can stand at together, for all rows at once.

A cell that is greater than all numbers that the readers name is *great*. Which great cell it is
need not be known: a great cell that just one reader takes is free, its skip has any length from
some least one on (in steps, if the other reader keeps the rest of the cell). A great cell that
both take is SHARED, as long as both keep it or skip by it. The reader that comes to its skip
first is *early*, the other one is *late*. When the early skip has ended while the late reader
still keeps the number, or has just begun its skip, the number is FIXED.

A state is (stand, stand, since), of the first and the second reader. Its last entry is
- how many cells the early reader has skipped, where the late one keeps SHARED;
- (least, more), where both skip by it: behind so many cells, the least that is possible, one of
  them ends its skip, and `more` cells later the other one does. The first reader ends first, or
  the second one if `more` is below 0. If the early one ends first and the last stretch
  (stretches.py) follows, `more` is not known: ONE_EARLY or OTHER_EARLY tells which one is early;
- None otherwise.
"""

from math import lcm

from splitalike.machines import Machine
from splitalike.readers import PASSING

# With a blank, as no name of a line has: these words stand beside names.
SHARED = "shared number"
FIXED = "fixed number"

ONE_EARLY = "one early"
OTHER_EARLY = "other early"

KEEPS = "keeps"
SKIPS = "skips"

# Two skips by one number differ by at most 7 cells, and the least length of one is at most 10: from
# here on, it makes no difference how many cells the early reader has skipped.
LONG = 11


class Pair:
    """Two readers that read one row."""

    def __init__(self, one, other):
        self.machines = (Machine(one), Machine(other))
        self.great = _least_great([*one.lines, *other.lines])
        self._needed = tuple([(_needed(lines, False), _needed(lines, True)) for lines in (one.lines, other.lines)])
        self._known = ({}, {})
        self._alone = ({}, {})

    def constant(self, side, name):
        """The constant of a skip line."""
        return self.machines[side].lines[name][1]

    def least_skip(self, side, name):
        """How many cells a skip passes at least, if a great number is kept."""
        return self.great + self.constant(side, name)

    def ended(self, side, name):
        """The outcome where a skip ends."""
        stand, event = self.machines[side].come(self.machines[side].lines[name][2], None)
        return (self._tidied(side, stand), event)

    def alone(self, side, stand):
        """(cell, outcome) for all that a cell can lead one reader to, while the other one skips; each once."""
        known = self._alone[side]
        if stand not in known:
            found = {}
            for cell, taken in self._cells([self._line(side, stand)]):
                for out in self._outcomes(side, stand, cell, taken):
                    found.setdefault(out, cell)
            known[stand] = [(cell, out) for out, cell in found.items()]
        return known[stand]

    def moves(self, state):
        """(cell, outcomes, since) for all that a cell can lead both readers to, each once."""
        found = []
        seen = set()
        for cell, taken in self._cells([self._line(side, state[side]) for side in (0, 1)]):
            for one in self._outcomes(0, state[0], cell, taken):
                for other in self._outcomes(1, state[1], cell, taken):
                    if (one, other) not in seen:
                        seen.add((one, other))
                        found.extend([(cell, outs, since) for outs, since in self._settled(state, (one, other))])
        return found

    def _line(self, side, stand):
        return self.machines[side].lines[stand[0]]

    def _cells(self, lines):
        """The cells that are worth trying, each with what a take keeps of it."""
        words = [line[0] for line in lines]
        if all([word in PASSING for word in words]):
            return [(0, 0)]
        cells = [(cell, cell) for cell in range(self.great)]
        if words == ["take", "take"]:
            return [*cells, (self.great, SHARED)]
        span = 1
        for line in lines:
            if line[0] == "rest":
                span = lcm(span, line[1])
        return [*cells, *[(cell, (cell, span)) for cell in range(self.great, self.great + span)]]

    def _outcomes(self, side, stand, cell, taken):
        known = self._known[side]
        key = (stand, cell, taken)
        if key not in known:
            outs = self.machines[side].after(stand, cell, taken)
            known[key] = [(self._tidied(side, new), event) for new, event in outs]
        return known[key]

    def _tidied(self, side, stand):
        """The stand without what it keeps, if that can make no difference any more."""
        if stand is None or stand[1] is None:
            return stand
        small, great = self._needed[side]
        needed = small if isinstance(stand[1], int) else great
        return stand if needed[stand[0]] else (stand[0], None, stand[2])

    def _settled(self, state, outs):
        """(outcomes, since) for all that these outcomes can mean, by the numbers that were shared before."""
        since = state[2]
        if isinstance(since, tuple):
            return self._both_skipped(since, outs)
        time = 0 if since is None else min(since + 1, LONG)
        marks = [_mark(out) for out in outs]
        if marks == [SKIPS, SKIPS]:
            return self._both_skip(state, time, outs)
        if marks[0] == marks[1]:
            return [(outs, None)]
        if None in marks:
            return self._freed(time, outs, 1 if marks[0] is None else 0)
        return self._one_skips(time, outs, marks.index(SKIPS))

    def _one_skips(self, time, outs, early):
        """The early reader skips, and the late one keeps the number: the skip goes on, or ends here."""
        found = [(outs, time)]
        if time >= self.least_skip(early, _name(outs, early)):
            found.append((self._early_ended(outs, early), None))
        return found

    def _early_ended(self, outs, early):
        """The outcomes where the early skip ends here."""
        name = _name(outs, early)
        (late, kept, left), event = outs[1 - early]
        fixed = (late, FIXED, left) if kept == SHARED else (late, None, FIXED)
        return in_order(early, self.ended(early, name), (fixed, event))

    def _freed(self, time, outs, lone):
        """One reader has let go of what both kept: it is free for the other one."""
        (name, kept, left), event = outs[lone]
        let_go = outs[1 - lone]
        if kept == SHARED:
            return [(in_order(lone, ((name, (self.great, 1), left), event), let_go), None)]
        least = self.least_skip(lone, name) - time
        found = [(in_order(lone, ((name, None, (max(1, least), 1)), event), let_go), None)]
        if least <= 0:
            found.append((in_order(lone, self.ended(lone, name), let_go), None))
        return found

    def _both_skip(self, state, time, outs):
        """Both have come to their skips: at once, or the late one while the early one skips."""
        mores = [self.constant(side, _name(outs, side)) for side in (0, 1)]
        if time == 0:
            return [(outs, (self.great + min(mores), mores[1] - mores[0]))]
        early = 0 if state[0][2] == SHARED else 1
        late = 1 - early
        later = time + mores[late] - mores[early]
        if later <= 0:
            # The late reader is the first to end its skip.
            return [(outs, (self.great + mores[late], later if early == 0 else -later))]
        least = self.great + mores[early] - time
        found = [(outs, (max(1, least), ONE_EARLY if early == 0 else OTHER_EARLY))]
        if least <= 0:
            found.append((self._early_ended(outs, early), None))
        return found

    def _both_skipped(self, since, outs):
        """Both have skipped one more cell by the number."""
        least, more = since
        if least > 1:
            return [(outs, (least - 1, more))]
        if more == ONE_EARLY or more == OTHER_EARLY:
            return [(self._early_ended(outs, 0 if more == ONE_EARLY else 1), None)]
        ends = [self.ended(side, _name(outs, side)) for side in (0, 1)]
        if more > 0:
            ends[1] = ((_name(outs, 1), None, (more, 0)), None)
        elif more < 0:
            ends[0] = ((_name(outs, 0), None, (-more, 0)), None)
        # Both could skip more cells, but nothing that follows depends on how many.
        return [(tuple(ends), None)]


def is_shared(stand):
    """Whether a stand has to do with a number that both readers keep or skip by."""
    return SHARED in stand


def in_order(side, own, partner):
    """A pair of what the reader on this side has and what the other one has, in the order of the readers."""
    return (own, partner) if side == 0 else (partner, own)


def _mark(out):
    stand = out[0]
    if stand is None or not is_shared(stand):
        return None
    return KEEPS if stand[1] == SHARED else SKIPS


def _name(outs, side):
    return outs[side][0][0]


def _least_great(lines):
    """One more than the greatest number that lines name, or 1 if they name none."""
    numbers = [0]
    for _, line in lines:
        if line[0] == "case":
            numbers.extend([value for value, _ in line[1]])
        elif line[0] in ("cap", "set", "upto"):
            numbers.append(line[1])
        elif line[0] == "skip":
            numbers.append(-line[1])
    return max(numbers) + 1


def _needed(lines, great):
    """For each line, whether it or one that can follow asks for a number, a great one if so, that is kept at it."""
    needed = {name: False for name, _ in lines}
    # Each round looks one line further.
    for _ in range(len(needed)):
        for name, line in lines:
            needed[name] = _asks(line, needed, great)
    return needed


def _asks(line, needed, great):
    word = line[0]
    if word == "skip" or (word == "upto" and not great):
        return True
    if word == "upto":
        # All great numbers go this way; one that is not kept does so, too.
        return needed[line[3]]
    if word == "jump":
        return needed[line[2]]
    if word == "case":
        return needed[line[2]] or any([needed[name] for _, name in line[1]])
    return False
