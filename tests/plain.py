"""What the program is compared with: a plain run, cell by cell, and a plain search, row by row.

Also readers that are made at random, by a seed, so that each run of the tests makes the same ones.
"""

import itertools

from splitalike.errors import SplitError
from splitalike.readers import Reader
from splitalike.texts import read_reader

NAMES = ("a", "b", "c", "d", "e", "f", "g", "h")
EVEN = {"case": 3, "take": 2, "rest": 1, "cap": 1, "jump": 1.5, "set": 1, "upto": 1, "skip": 2, "cut": 1, "refuse": 1}
# Readers with these words often skip by one cell, at unlike places.
SKIPPING = {"case": 5, "jump": 3, "skip": 2.5, "take": 1, "rest": 0.5, "cap": 0.4, "set": 0.3, "upto": 0.3}
CHANGING = {**SKIPPING, "case": 6, "take": 1.5, "cut": 0.3}


class Plain:
    """A reader that looks at one cell after the other; events are "cut", "refuse" and None."""

    def __init__(self, reader):
        self.lines = dict(reader.lines)
        self.first = reader.lines[0][0]
        self.begin = self.come(self.first, None)[0]
        self.known = {}

    def come(self, name, kept):
        event = None
        while True:
            word, *rest = self.lines[name]
            if word == "refuse":
                return None, "refuse"
            if word == "cut":
                event, name, kept = "cut", self.first, None
            elif word == "set":
                kept, name = rest
            elif word == "upto":
                name = rest[1] if kept is not None and kept <= rest[0] else rest[2]
            elif word == "skip":
                if kept is None or kept + rest[0] < 0:
                    return None, "refuse"
                if kept + rest[0] > 0:
                    return (name, None, kept + rest[0]), event
                kept, name = None, rest[1]
            else:
                return (name, kept, rest[0] if word == "jump" else 1), event

    def step(self, stand, cell):
        if (stand, cell) not in self.known:
            self.known[stand, cell] = self.stepped(stand, cell)
        return self.known[stand, cell]

    def stepped(self, stand, cell):
        name, kept, left = stand
        word, *rest = self.lines[name]
        if left > 1:
            return (name, kept, left - 1), None
        if word == "case":
            return self.come(dict(rest[0]).get(cell, rest[1]), kept)
        if word == "take":
            kept = cell
        elif word == "rest":
            kept = cell % rest[0]
        elif word == "cap":
            kept = min(cell, rest[0])
        return self.come(rest[-1], kept)

    def idle(self, stand):
        return self.lines[stand[0]][0] in ("jump", "skip")

    def rule(self, stand, cell):
        """The rule that is used with this cell, or None."""
        name, _, left = stand
        word, *rest = self.lines[name]
        if word == "skip" or (word == "jump" and left < rest[0]):
            return None
        if word != "case":
            return (name, 0)
        values = [value for value, _ in rest[0]]
        return (name, values.index(cell) if cell in values else len(values))


class PlainTurned(Plain):
    """A reader with some of its rules turned."""

    def __init__(self, reader, rules):
        super().__init__(reader)
        self.turned = rules

    def stepped(self, stand, cell):
        if self.rule(stand, cell) in self.turned:
            return None, "refuse"
        return super().stepped(stand, cell)


def plain_of(reader):
    return reader if isinstance(reader, Plain) else Plain(reader)


def stands(reader, cells):
    """(stand, event) at all places, from place 0 on; behind a refusal (None, None)."""
    plain = plain_of(reader)
    found = [(plain.begin, None)]
    for cell in cells:
        stand = found[-1][0]
        found.append((None, None) if stand is None else plain.step(stand, cell))
    return found


def events(reader, cells):
    return [event for _, event in stands(reader, cells)]


def told(reader, cells):
    """What run is to tell, as a tuple."""
    all_events = events(reader, cells)
    cut = [place for place, event in enumerate(all_events) if event == "cut"]
    refused = all_events.index("refuse") if "refuse" in all_events else None
    last = cut[-1] if cut else None
    inside = (len(cells) if refused is None else refused) - (last or 0)
    line, kept, left = stands(reader, cells)[-1][0] or (None, None, 0)
    return (len(cut), last, refused, inside, line, kept, left)


def shown(reader, cells):
    """The places of the cuts, a tuple, and the place of the refusal or None."""
    all_events = events(reader, cells)
    cut = [place for place, event in enumerate(all_events) if event == "cut"]
    return (tuple(cut), all_events.index("refuse") if "refuse" in all_events else None)


def rules_used(reader, cells):
    """All rules that a run uses, as a set."""
    plain = plain_of(reader)
    found = set()
    for (stand, _), cell in zip(stands(plain, cells), cells):
        if stand is not None:
            found.add(plain.rule(stand, cell))
    return found - {None}


def first_place(one, other, cells, asked):
    """The first place where two readers "part" or "differ", or None."""
    for place, (left, right) in enumerate(zip(events(one, cells), events(other, cells))):
        if "refuse" in (left, right):
            return place if asked == "differ" and left != right else None
        if left != right:
            return place
    return None


def lines_over(one, other, cells, beyond):
    """The names of the lines by which both go over the last cell, or None if they do not come so far."""
    before = list(zip(events(one, cells[:-1]), events(other, cells[:-1])))
    if any("refuse" in pair for pair in before) or (not beyond and any(left != right for left, right in before)):
        return None
    return tuple(stands(reader, cells[:-1])[-1][0][0] for reader in (one, other))


def searched(one, other, asked, most, longest):
    """What is found on all rows with cells of at most `most` and of at most this length, with the least lengths.

    `asked` is "part", "differ", "meet" or "meet beyond"; what is found are this word, or pairs of names.
    """
    plains = (plain_of(one), plain_of(other))
    layer = [(plains[0].begin, plains[1].begin)]
    seen = set(layer)
    found = {}
    for length in range(1, longest + 1):
        further = []
        if not layer:
            break
        for left, right in layer:
            if asked.startswith("meet"):
                found.setdefault((left[0], right[0]), length)
            both_idle = plains[0].idle(left) and plains[1].idle(right)
            for cell in (0,) if both_idle else range(most + 1):
                (new, event), (second, other_event) = plains[0].step(left, cell), plains[1].step(right, cell)
                refused = "refuse" in (event, other_event)
                if event != other_event and (asked == "differ" or (asked == "part" and not refused)):
                    return {asked: length}
                if not refused and (event == other_event or asked == "meet beyond") and (new, second) not in seen:
                    seen.add((new, second))
                    further.append((new, second))
        layer = further
    return found


def random_line(rng, names, weights):
    word = rng.choices(list(weights), list(weights.values()))[0]
    small = rng.randint(0, 5) if rng.random() < 0.25 else rng.randint(0, 2)
    if word == "case":
        values = rng.sample(range(6 if rng.random() < 0.2 else 3), rng.randint(0, 3))
        return (word, [(value, rng.choice(names)) for value in values], rng.choice(names))
    if word == "take":
        return (word, rng.choice(names))
    if word == "rest":
        return (word, rng.randint(2, 4), rng.choice(names))
    if word == "jump":
        return (word, rng.randint(1, 4), rng.choice(names))
    if word in ("cap", "set"):
        return (word, small, rng.choice(names))
    if word == "upto":
        return (word, small, rng.choice(names), rng.choice(names))
    if word == "skip":
        return (word, rng.choice((-3, -2, -1, 0, 0, 0, 1, 1, 2, 3, 4)), rng.choice(names))
    return (word,)


def random_reader(rng, many=None, weights=None, first=None):
    """A valid reader, with so many lines and this first word."""
    while True:
        names = NAMES[:many or rng.randint(1, 8)]
        lines = [(name, random_line(rng, names, weights or EVEN)) for name in names]
        if len(names) > 2:
            lines[-1] = (names[-1], ("cut",))
            if rng.random() < 0.6:
                lines[-2] = (names[-2], ("refuse",))
        if first is not None:
            lines[0] = (names[0], random_line(rng, names, {first: 1}))
        try:
            return Reader(lines)
        except SplitError:
            pass


def changed_reader(rng, reader, weights=None):
    """A valid reader that has another line at one place."""
    while True:
        names = reader.names()
        try:
            return reader.replaced(rng.choice(names), random_line(rng, names, weights or EVEN))
        except SplitError:
            pass


def random_pair(rng):
    """Two readers, often with lines in common, often with skips by one cell."""
    draw = rng.random()
    if draw < 0.25:
        return random_reader(rng), random_reader(rng)
    if draw < 0.5:
        reader = random_reader(rng)
        return reader, changed_reader(rng, reader)
    if draw < 0.65:
        reader = random_reader(rng, rng.randint(4, 8), SKIPPING, "take")
        return reader, changed_reader(rng, reader, SKIPPING)
    return tuple(random_reader(rng, rng.randint(4, 8), SKIPPING, "take") for _ in range(2))


def reader_of(*lines):
    return read_reader("\n".join(lines))


def early_of(ring, more, *others):
    """Skips at once, and refuses on 0 and 2 behind, but for every so many cells, on 0 alone; never cuts."""
    names = "abcde"[:ring]
    lines = [f"{name}: case 0 no 2 no else {follower}" for name, follower in zip(names, names[1:])]
    return reader_of("size: take body", f"body: skip {more} a", *lines, f"{names[-1]}: case 0 no else a", "no: refuse",
                     *others)


def late_of(first, second, more, *others):
    """Skips behind rounds of cells, when the last one of a round is 0; then it cuts behind a 2."""
    jumps = [f"p: jump {first} r", f"r: jump {second} q"] if second else [f"p: jump {first} q"]
    return reader_of("size: take p", *jumps, "q: case 0 body else p", f"body: skip {more} w",
                     "w: case 2 end else no", "end: cut", "no: refuse", *others)


def guarded_pairs():
    """Pairs that both go on with great cells alone, and skip by one number: at once, or late by so many cells."""
    ends = (("d: cut",), ("d: case 0 d 1 e else no", "e: cut"), ("d: take e", "e: cut"), ("d: refuse",))
    pairs = []
    for number, wait, more, constant in itertools.product((1, 3), range(9), (-2, 0, 3), (-3, 0, 1)):
        pairs.append((number, wait, more, constant, ends[len(pairs) % 4], ends[len(pairs) // 5 % 4]))
    for number, wait, more, constant, end, other_end in pairs:
        one = reader_of("a: take b", f"b: upto {number} no else c", f"c: skip {more} d", *end, "no: refuse")
        jumps = [f"w: jump {wait - wait // 2} v", f"v: jump {wait // 2} c"] if wait > 4 else [f"w: jump {wait} c"]
        other = reader_of("a: take w", *jumps, f"c: skip {constant} d", *other_end, "no: refuse") if wait else \
            reader_of("a: take c", f"c: skip {constant} d", *other_end, "no: refuse")
        yield one, other


def pairs_cut_in_the_last_stretch():
    """Pairs of which the first reader can only cut while the second one skips, by the same number."""
    for many, more, constant, end in itertools.product(range(5), (-1, 0, 2), (-2, 0, 1, 4), ("cut", "refuse")):
        ends = ["d: case 0 f else no", "f: case 1 e else no"] if constant == 4 else ["d: case 1 e else no"]
        one = reader_of("a: take b", "b: upto 2 no else c", f"c: skip {more} d", *ends, "e: cut", "no: refuse")
        names = "wxyz"[:many] + "c"
        if many:
            waits = [f"{name}: case 0 {follower} else no" for name, follower in zip(names, names[1:])]
        else:
            names = "wvc"
            waits = ["w: case 0 v else no", "v: case 0 w 2 c else no"]
        yield one, reader_of(f"a: take {names[0]}", *waits, f"c: skip {constant} d", f"d: {end}", "no: refuse")


def skipping_pair(rng):
    """Two readers that skip by one number, at unlike places, with some lines changed."""
    ring, second = rng.randint(1, 5), rng.choice((0, 0, 2, 3))
    early = early_of(ring, rng.randint(-3, 4), *["cut: cut", "t: take body"][:max(0, 5 - ring)])
    late = late_of(rng.randint(1, 4), second, rng.randint(-3, 4), *([] if second else ["t: take w"]))
    pair = [early, late]
    for side in (0, 1):
        for _ in range(rng.choice((0, 1, 1, 2, 3))):
            pair[side] = changed_reader(rng, pair[side], CHANGING)
    return tuple(pair if rng.random() < 0.5 else pair[::-1])
