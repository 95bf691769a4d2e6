"""Readers: the lines by which a row is cut into messages, and their checks."""

from splitalike.errors import BadBegin, BadReader, BadRing, NoLine, TooMany

MOST_LINES = 8
# How many readers are handed in at once, at the most.
MOST_READERS = 8
MOST_LETTERS = 12
LETTERS = "abcdefghijklmnopqrstuvwxyz"

# How many entries a line with this word has, the word included.
ENTRIES = {
    "case": 3,
    "take": 2,
    "rest": 3,
    "cap": 3,
    "jump": 3,
    "set": 3,
    "upto": 4,
    "skip": 3,
    "cut": 1,
    "refuse": 1,
}

# The least and the greatest integer behind each word that has one; the names follow it.
BOUNDS = {
    "rest": (2, 4),
    "cap": (0, 5),
    "jump": (1, 4),
    "set": (0, 5),
    "upto": (0, 5),
    "skip": (-3, 4),
}
VALUES = (0, 5)

READING = ("case", "take", "rest", "cap", "jump")
# The lines that go over cells without looking at them.
PASSING = ("jump", "skip")
NEVER_FIRST = ("cut", "skip", "refuse")


class Reader:
    """A sequence of named lines, checked once when it is made."""

    def __init__(self, lines):
        if len(lines) > MOST_LINES:
            raise TooMany(len(lines))
        if len(lines) == 0:
            raise BadReader(0)
        _check_forms(lines)
        self.lines = tuple([(name, _frozen(line)) for name, line in lines])
        _check_goals(self.lines)
        _check_rings(self.lines)
        _check_begin(self.lines)

    def __eq__(self, other):
        return isinstance(other, Reader) and self.lines == other.lines

    def names(self):
        """The names of the lines, in order."""
        return [name for name, _ in self.lines]

    def line_of(self, name):
        """The line of this name."""
        for own, line in self.lines:
            if own == name:
                return line
        raise NoLine(name)

    def exits(self, name):
        """The names that the line can go to, as they are written, each once."""
        found = []
        for goal in _goals(self.line_of(name)):
            if goal not in found:
                found.append(goal)
        return found

    def reads(self, name):
        """Whether the line reads."""
        return self.line_of(name)[0] in READING

    def replaced(self, name, line):
        """A new reader with another line under this name."""
        if name not in self.names():
            raise NoLine(name)
        return Reader([(own, line if own == name else old) for own, old in self.lines])


def is_name(text):
    """Whether a text can be the name of a line."""
    return 1 <= len(text) <= MOST_LETTERS and all([letter in LETTERS for letter in text])


def _within(number, bounds):
    return bounds[0] <= number <= bounds[1]


def _are_ways(ways):
    """Whether these can be the ways of a case line; where they lead to is not asked here."""
    values = []
    for way in ways:
        if len(way) != 2 or not _within(way[0], VALUES) or way[0] in values:
            return False
        values.append(way[0])
    return True


def _has_form(line):
    """Whether a line has the form of its word; where it leads to is not asked here."""
    if len(line) == 0 or line[0] not in ENTRIES or len(line) != ENTRIES[line[0]]:
        return False
    word = line[0]
    if word == "case":
        return _are_ways(line[1])
    return word not in BOUNDS or _within(line[1], BOUNDS[word])


def _frozen(line):
    """A copy of a line of valid form that nobody else can change."""
    if line[0] == "case":
        return ("case", tuple([tuple(way) for way in line[1]]), line[2])
    return tuple(line)


def _goals(line):
    """The names in a line of valid form, as they are written."""
    if line[0] == "case":
        return [*[name for _, name in line[1]], line[2]]
    if line[0] in BOUNDS:
        return list(line[2:])
    return list(line[1:])


def _check_forms(lines):
    names = []
    for number, (name, line) in enumerate(lines):
        if not is_name(name) or name in names or not _has_form(line):
            raise BadReader(number)
        names.append(name)


def _check_goals(lines):
    names = [name for name, _ in lines]
    for number, (_, line) in enumerate(lines):
        if not all([goal in names for goal in _goals(line)]):
            raise BadReader(number)


def _silent_ways(lines):
    """For each silent line the names that it goes to."""
    return {name: _goals(line) for name, line in lines if line[0] not in READING}


def _reached(ways, names):
    """The names, and all that silent lines lead to from them."""
    found = []
    ahead = list(names)
    while ahead:
        name = ahead.pop()
        if name not in found:
            found.append(name)
            # A line that reads has no entry: behind it, silent lines are not alone.
            ahead.extend(ways.get(name, []))
    return found


def _check_rings(lines):
    ways = _silent_ways(lines)
    for number, (name, _) in enumerate(lines):
        if name in _reached(ways, ways.get(name, [])):
            raise BadRing(number)


def _check_begin(lines):
    begun = _reached(_silent_ways(lines), [lines[0][0]])
    for number, (name, line) in enumerate(lines):
        if line[0] in NEVER_FIRST and name in begun:
            raise BadBegin(number)
