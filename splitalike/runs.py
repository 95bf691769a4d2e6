"""Runs of readers on rows, also on rows of runs with very large counts."""

from splitalike.machines import CUT, REFUSE, Machine
from splitalike.rows import row_of, short_row_of


class Told:
    """What is told of a reader's run on a row."""

    def __init__(self, many, last, refused, inside, line, kept, left):
        self.many = many
        self.last = last
        self.refused = refused
        self.inside = inside
        self.line = line
        self.kept = kept
        self.left = left

    def __eq__(self, other):
        return isinstance(other, Told) and _parts(self) == _parts(other)


def run(reader, row):
    """What is told of the run of a reader on a row."""
    whole = row_of(row)
    machine = Machine(reader)
    return told_of(course_over(machine, course_begun(machine), whole))


def cuts(reader, row):
    """The places of all cuts, ascending."""
    whole = short_row_of(row)
    return shown(Machine(reader), whole)[0]


def parting_place(one, other, row):
    """The first place of a row at which two readers part, or None."""
    place, events = first_unlike(one, other, row)
    return None if REFUSE in events else place


def first_unlike(one, other, row):
    """(place, events) where two readers first come to anything but a cut of both; (None, ()) if nowhere.

    The events are those of the first and of the second reader at this place.
    """
    machines = (Machine(one), Machine(other))
    stands = [machine.begin for machine in machines]
    end = 0
    for count, cell in row_of(row).runs:
        place = end
        end = end + count
        while place < end:
            begun = stands == [machine.begin for machine in machines]
            passed, stands, events = _ahead_together(machines, stands, cell, end - place)
            if events not in ([None, None], [CUT, CUT]):
                return (place + passed, tuple(events))
            # Messages of equal cells that both begin and end together are followed by such ones.
            times = (end - place) // passed if begun and CUT in events else 1
            place = place + times * passed
    return (None, ())


def shown(machine, row):
    """(places of all cuts, place of the refusal or None): what a reader shows on a row."""
    found = []
    stand = machine.begin
    end = 0
    for count, cell in row.runs:
        place = end
        end = end + count
        while place < end:
            passed, (stand, event) = machine.ahead(stand, cell, end - place)
            place = place + passed
            if event == REFUSE:
                return (found, place)
            if event == CUT:
                found.append(place)
    return (found, None)


def course_begun(machine):
    """The course of a reader in front of the first cell: (place, many, last, refused, stand)."""
    return (0, 0, None, None, machine.begin)


def course_over(machine, course, row):
    """The course of a reader behind one more row of cells."""
    for count, cell in row.runs:
        course = _over_run(machine, course, count, cell)
    return course


def told_of(course):
    """What is told of a run with this course."""
    place, many, last, refused, stand = course
    end = place if refused is None else refused
    inside = end if last is None else end - last
    line, kept, left = (None, None, 0) if stand is None else stand
    return Told(many, last, refused, inside, line, kept, left)


def _parts(told):
    return (told.many, told.last, told.refused, told.inside, told.line, told.kept, told.left)


def _over_run(machine, course, count, cell):
    place, many, last, refused, stand = course
    end = place + count
    while place < end and refused is None:
        begun = stand == machine.begin
        passed, (stand, event) = machine.ahead(stand, cell, end - place)
        # A message of equal cells, from its beginning on, is followed by such ones.
        times = (end - place) // passed if begun and event == CUT else 1
        place = place + times * passed
        if event == CUT:
            many = many + times
            last = place
        elif event == REFUSE:
            refused = place
    return (end, many, last, refused, stand)


def _ahead_together(machines, stands, cell, count):
    """(passed, stands, events) of two readers on equal cells, up to the first event of either."""
    told = [machine.ahead(stand, cell, count) for machine, stand in zip(machines, stands)]
    passed = min([own for own, _ in told])
    events = [event if own == passed else None for own, (_, event) in told]
    return (passed, [stand for _, (stand, _) in told], events)
