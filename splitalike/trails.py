"""Rows out of the trails of a search: what great cells are to be is known behind the skips only."""

from splitalike.pairs import SHARED, in_order


def row_along(pair, stretches, trail):
    """The row along a trail: steps (node, step, node), the last node is a goal."""
    entries = _entries(pair, stretches, trail)
    goal = trail[-1][2]
    cells = [cell for _, _, cell in entries]
    finals = goal[2:]
    if isinstance(goal[1], tuple):
        # The last cell is only gone over: the row is cut off at what both stand at in front of it.
        *entries, last = entries
        finals = last[:2]
    lengths = {}
    bounds = {}
    for side in (0, 1):
        stands = [*[entry[side] for entry in entries], finals[side]]
        _follow(pair, side, stands, cells, lengths, bounds)
    for place, least in bounds.items():
        cells[place] = max(cells[place], least)
    for place, cell in lengths.items():
        cells[place] = cell
    return tuple(cells)


def _entries(pair, stretches, trail):
    """(stand, stand, cell) for each cell of a row: what both stand at in front of it."""
    entries = []
    # The beginning of a job and its cells in the first and in the last stretch.
    begin = None
    firsts = []
    lasts = []
    for node, step, new in trail:
        if node[0] == "at" and new[0] == "side":
            begin, firsts, lasts = new, [], []
            continue
        if node[0] == "at":
            entries.append((node[1], node[2], step))
            continue
        if step[0] is not None:
            firsts.append((node[2], step[0]))
        if step[1] is not None:
            lasts.append((node[4], step[1]))
        if new[0] in ("at", "goal"):
            entries.extend(_of_stretches(pair, stretches, begin, firsts, lasts))
    return entries


def _of_stretches(pair, stretches, begin, firsts, lasts):
    _, job, _, _, other, _ = begin
    early, skip, late_skip, _ = job
    skips = (skip, None, SHARED)
    waits = (late_skip, None, SHARED)
    lacking = pair.least_skip(early, skip) - len(firsts)
    return [
        *[(*in_order(early, skips, stand), cell) for stand, cell in firsts],
        *[(*in_order(early, skips, waits), 0) for _ in range(lacking)],
        *stretches.gap(job, other),
        *[(*in_order(early, stand, waits), cell) for stand, cell in lasts],
    ]


def _follow(pair, side, stands, cells, lengths, bounds):
    """Tells by the skips of one reader what the cells that it has taken are, or are at least."""
    taken = None
    begun = None
    for place, stand in enumerate(stands):
        skips = stand is not None and not isinstance(stand[2], int)
        if skips and begun is None:
            begun = place
        if begun is not None and not skips:
            lengths[taken] = place - begun - pair.constant(side, stands[begun][0])
            begun = None
        if stand is not None and pair.machines[side].lines[stand[0]][0] == "take":
            taken = place
    if begun is not None:
        left = stands[-1][2]
        least = 1 if isinstance(left, str) else left[0]
        bounds[taken] = max(
            bounds.get(taken, 0),
            len(stands) - 1 - begun + least - pair.constant(side, stands[begun][0]),
        )
