"""The rules of readers, and readers of which some rules are turned to refusals."""

from splitalike.machines import Machine
from splitalike.readers import READING

# With a blank, as no name of a line has.
REFUSAL = "turned rule"


class Turned:
    """A reader with some of its rules turned. It may have nine lines, so it is no Reader."""

    def __init__(self, reader, rules):
        lines = [(name, _turned_line(name, line, rules)) for name, line in reader.lines]
        self.lines = (*lines, (REFUSAL, ("refuse",)))


def all_rules(reader):
    """All rules of a reader, in order."""
    found = []
    for name, line in reader.lines:
        if line[0] in READING:
            found.extend([(name, number) for number in range(_other_way(line) + 1)])
    return found


def rules_used(reader, cells):
    """The rules that a run on these cells uses, each once, in order."""
    machine = Machine(reader)
    stand = machine.begin
    found = {}
    for cell in cells:
        line = machine.lines[stand[0]]
        # A skip uses no rule. A jump has used its own with its first cell, the others add nothing.
        if line[0] in READING:
            found[(stand[0], _way_number(line, cell))] = True
        stand, _ = machine.step(stand, cell, cell)
        if stand is None:
            break
    return [rule for rule in all_rules(reader) if rule in found]


def _other_way(line):
    """The number of the last way of a line that reads."""
    return len(line[1]) if line[0] == "case" else 0


def _way_number(line, cell):
    """The number of the way that a line that reads goes with this cell."""
    if line[0] == "case":
        for number, (value, _) in enumerate(line[1]):
            if value == cell:
                return number
    return _other_way(line)


def _turned_line(name, line, rules):
    """This line, with those of its rules turned that are among the rules."""
    if line[0] == "case":
        ways = []
        for number, (value, goal) in enumerate(line[1]):
            ways.append((value, REFUSAL if (name, number) in rules else goal))
        return ("case", tuple(ways), REFUSAL if (name, len(ways)) in rules else line[2])
    if (name, 0) not in rules:
        return line
    if line[0] == "jump":
        # It refuses behind its first cell, however many it was to read.
        return ("jump", 1, REFUSAL)
    return (*line[:-1], REFUSAL)
