"""What happens while just one of two readers skips by a number that both have kept.

In the first stretch the early reader skips, in the last one the late reader does. The last one is
longer by the difference of the skips' constants, so both are gone through side by side, as nodes
("side", job, stand, time, other, lead): the stand of the late reader in the first stretch, how many
of its cells are gone over (as far as this matters), the stand of the early reader in the last
stretch, and how many cells the last stretch is to go over alone before (the first one, if below 0).
Nodes ("tail", job, stand, time, label) go on with the first stretch alone, where the row ends
within the last one.

A job is (early, skip, late skip, goal): which reader is early, the names of the two skips, and the
stand of the late reader at the end of the first stretch. Either its skip begins there, or else the
early skip ends there and both go on, through a gap, until the late skip begins.
"""

from splitalike.pairs import FIXED, SHARED, in_order, is_shared


class Stretches:
    """The steps of two readers through the two stretches."""

    def __init__(self, pair, question):
        self._pair = pair
        self._question = question
        self._ways = {}
        self._reached = {}
        self._gaps = {}

    def begun(self, state):
        """(cost, node) for all jobs that can begin at a state where the early skip begins."""
        early = 0 if state[0][2] == SHARED else 1
        skip = state[early][0]
        stand, event = self._pair.ended(early, skip)
        if not self._question.goes_on(in_order(early, event, None)):
            return []
        late = state[1 - early]
        found = []
        for goal in self._stands_from(1 - early, late):
            for (other, late_skip), (length, _, _) in self._gap_ends(early, skip, goal, stand).items():
                lead = self._pair.constant(1 - early, late_skip) - self._pair.constant(early, skip)
                cost = self._pair.least_skip(early, skip) + length
                found.append((cost, ("side", (early, skip, late_skip, goal), late, 0, other, lead)))
        return found

    def steps(self, node):
        """(cost, step, what it leads to): another node, ("goal", label, stand, stand), or ("both", outcomes).

        A step is a pair of the cells in the first and in the last stretch, None for no cell.
        """
        if node[0] == "tail":
            return self._tail_steps(node)
        if node[5] < 0:
            return self._first_steps(node)
        if node[5] > 0:
            return self._last_steps(node)
        found = []
        for cell, stand, time, cost in self._late_moves(node):
            for last, out in self._pair.alone(node[1][0], node[4]):
                found.extend([(cost + 1, (cell, last), new) for new in self._both_steps(node, stand, time, out)])
        return found

    def gap(self, job, other):
        """(stand, stand, cell) for the cells of a shortest gap of a job, at whose end the early reader is there."""
        early, skip, late_skip, goal = job
        ends, before = self._gaps[(early, skip, goal)]
        _, state, cell = ends[(other, late_skip)]
        found = []
        while state is not None:
            found.append((state[0], state[1], cell))
            state, cell = before[state]
        return found[::-1]

    def _late_moves(self, node):
        """(cell, stand, time, cost) for the late reader's steps in the first stretch that can lead to the goal."""
        _, job, stand, time = node[:4]
        early, skip, _, goal = job
        least = self._pair.least_skip(early, skip)
        found = []
        for new, cell in self._late_ways(1 - early, stand).items():
            if new == goal or goal in self._stands_from(1 - early, new):
                # The first cells of the early skip have been paid for at the beginning.
                found.append((cell, new, min(time + 1, least), 0 if time < least else 1))
        return found

    def _arrives(self, job, stand, time):
        """Whether the first stretch can end here: where both skip then, the early skip need not end."""
        return stand == job[3] and (_skips(stand) or time == self._pair.least_skip(job[0], job[1]))

    def _first_steps(self, node):
        _, job, _, _, other, lead = node
        return [
            (cost, (cell, None), ("side", job, stand, time, other, lead + 1))
            for cell, stand, time, cost in self._late_moves(node)
        ]

    def _last_steps(self, node):
        _, job, stand, time, other, lead = node
        early, _, late_skip, _ = job
        found = []
        for cell, (new, event) in self._pair.alone(early, other):
            events = in_order(early, event, None)
            names = in_order(early, other[0], late_skip)
            for label in (self._question.label_of_lines(names), self._question.label_of_events(events)):
                if label is not None:
                    found.append((1, (None, cell), ("tail", job, stand, time, label)))
            if self._question.goes_on(events):
                found.append((1, (None, cell), ("side", job, stand, time, new, lead - 1)))
        return found

    def _both_steps(self, node, stand, time, out):
        """What a cell of both stretches leads to, by the late reader's new stand and the early one's outcome."""
        _, job, _, _, other, _ = node
        early, _, late_skip, _ = job
        events = in_order(early, out[1], None)
        by_lines = self._question.label_of_lines(in_order(early, other[0], late_skip))
        by_events = self._question.label_of_events(events)
        found = []
        if self._arrives(job, stand, time):
            found.append(("both", in_order(early, out, self._pair.ended(1 - early, late_skip))))
            if by_lines is not None:
                found.append(("goal", by_lines, None, None))
        found.extend([("tail", job, stand, time, label) for label in (by_lines, by_events) if label is not None])
        if self._question.goes_on(events):
            found.append(("side", job, stand, time, out[0], 0))
        return found

    def _tail_steps(self, node):
        _, job, _, _, label = node
        found = []
        for cell, stand, time, cost in self._late_moves(node):
            if self._arrives(job, stand, time):
                # The early reader has come to an event behind the last cell, the late one still skips.
                stands = in_order(job[0], None, (job[2], None, FIXED))
                found.append((cost, (cell, None), ("goal", label, stands[0], stands[1])))
            found.append((cost, (cell, None), ("tail", job, stand, time, label)))
        return found

    def _late_ways(self, late, stand):
        """The stands that a cell leads the late reader to in the first stretch, each with a cell that does."""
        key = (late, stand)
        if key not in self._ways:
            ways = {}
            if not _skips(stand):
                for cell, (new, _) in self._pair.alone(late, stand):
                    if new is not None and is_shared(new):
                        ways.setdefault(new, cell)
            self._ways[key] = ways
        return self._ways[key]

    def _stands_from(self, late, stand):
        """All stands that one or more cells of the first stretch lead the late reader to, as keys."""
        key = (late, stand)
        if key not in self._reached:
            found = {}
            ahead = [stand]
            while ahead:
                last = ahead.pop()
                for new in self._late_ways(late, last):
                    if new not in found:
                        found[new] = True
                        ahead.append(new)
            self._reached[key] = found
        return self._reached[key]

    def _gap_ends(self, early, skip, goal, stand):
        """How gaps can end: (early stand, late skip) with (length, state before, last cell)."""
        key = (early, skip, goal)
        if key not in self._gaps:
            if _skips(goal):
                self._gaps[key] = ({(stand, goal[0]): (0, None, None)}, {})
            else:
                self._gaps[key] = self._searched_gap(early, stand, (goal[0], FIXED, goal[2]))
        return self._gaps[key][0]

    def _searched_gap(self, early, stand, late):
        start = (*in_order(early, stand, late), None)
        before = {start: (None, None)}
        ends = {}
        ahead = [start]
        length = 0
        while ahead:
            length = length + 1
            further = []
            for state in ahead:
                for cell, outs, since in self._pair.moves(state):
                    new = outs[1 - early][0]
                    if new is None or FIXED not in new or not self._question.goes_on((outs[0][1], outs[1][1])):
                        continue
                    key = (outs[0][0], outs[1][0], since)
                    if new[2] == FIXED:
                        ends.setdefault((outs[early][0], new[0]), (length, state, cell))
                    elif key not in before:
                        before[key] = (state, cell)
                        further.append(key)
            ahead = further
        return (ends, before)


def _skips(stand):
    return stand[2] == SHARED
