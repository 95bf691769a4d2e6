"""The search for shortest rows, among all rows of all lengths with all cells.

The nodes are ("at", stand, stand, since) for the states of pairs.py, those of stretches.py, and
("goal", label, stand, stand) for a row that ends there; what stands there may still skip.
"""

from heapq import heappop, heappush

from splitalike.pairs import FIXED, Pair
from splitalike.stretches import Stretches
from splitalike.trails import row_along


class Search:
    """All rows that a question asks for, of two readers, in the order of their lengths."""

    def __init__(self, one, other, question):
        self._pair = Pair(one, other)
        self._question = question
        self._stretches = Stretches(self._pair, question)
        self._queue = []
        self._nodes = []
        self._lengths = {}
        self._before = {}
        stands = [self._pair.machines[side].begin for side in (0, 1)]
        self._reach(("at", stands[0], stands[1], None), 0, None, None)

    def labels(self):
        """The labels of all rows that are asked for, as the keys of a dict."""
        found = {}
        node = self._next_goal()
        while node is not None:
            found[node[1]] = True
            node = self._next_goal()
        return found

    def row(self):
        """A shortest row that is asked for, a tuple of cells, or None."""
        node = self._next_goal()
        if node is None:
            return None
        trail = []
        while node is not None:
            before, step = self._before[node]
            trail.append((before, step, node))
            node = before
        return row_along(self._pair, self._stretches, trail[-2::-1])

    def _reach(self, node, length, before, step):
        if node not in self._lengths or length < self._lengths[node]:
            self._lengths[node] = length
            self._before[node] = (before, step)
            heappush(self._queue, (length, len(self._nodes)))
            self._nodes.append(node)

    def _next_goal(self):
        """The next goal, or None if there is no other one."""
        while self._queue:
            length, number = heappop(self._queue)
            node = self._nodes[number]
            # A node that was reached again, on a shorter way, has been gone on from already.
            if length > self._lengths[node]:
                continue
            if node[0] == "goal":
                return node
            if node[0] == "at":
                self._go_on(node, length)
            else:
                for cost, step, new in self._stretches.steps(node):
                    self._lead(node, length + cost, step, new)
        return None

    def _go_on(self, node, length):
        state = node[1:]
        label = self._question.label_of_lines((state[0][0], state[1][0]))
        if label is not None:
            self._reach(("goal", label, None, None), length + 1, node, 0)
        if FIXED in (state[0][2], state[1][2]):
            # How long this skip lasts is told by the stretches alone.
            return
        if state[2] == 0:
            for cost, new in self._stretches.begun(state):
                self._reach(new, length + cost, node, None)
        for cell, outs, since in self._pair.moves(state):
            self._come(node, length + 1, cell, outs, since)

    def _lead(self, node, length, step, new):
        if new[0] == "both":
            self._come(node, length, step, new[1], None)
        else:
            self._reach(new, length, node, step)

    def _come(self, node, length, step, outs, since):
        (one, event), (other, second) = outs
        label = self._question.label_of_events((event, second))
        if label is not None:
            self._reach(("goal", label, one, other), length, node, step)
        if self._question.goes_on((event, second)):
            self._reach(("at", one, other, since), length, node, step)
