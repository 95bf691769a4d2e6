import random
import unittest

from helper import Case
from plain import events, first_place, random_reader, told
from splitalike.desks import Desk
from splitalike.errors import BadCell, BadCount, NoReader, NothingToUndo, TooGreat, TooMany
from splitalike.rows import Row
from splitalike.runs import cuts, parting_place, run
from splitalike.texts import read_reader

HUGE = 10 ** 30
PARTS = ("many", "last", "refused", "inside", "line", "kept", "left")
BLOCK = read_reader("head: take body\nbody: skip 0 end\nend: cut")
COUNTED = BLOCK.replaced("body", ("skip", -1, "end"))
EACH = read_reader("a: take end\nend: cut")
REFUSES = read_reader("a: case 0 no else a\nno: refuse")


def zigzag(many):
    return [place % 2 for place in range(many)]


def told_by_desk(desk, number):
    found = desk.told(number)
    return tuple(getattr(found, name) for name in PARTS)


def seen_from(desk, many):
    """All that a desk of so many readers tells."""
    numbers = range(many)
    return (
        desk.fed().runs,
        [told_by_desk(desk, number) for number in numbers],
        [desk.cuts_of(number) for number in numbers],
        [desk.parting(one, other) for one in numbers for other in numbers],
    )


class Feeding(Case):
    def test_all_deeds_undo_and_redo(self):
        rng = random.Random(3)
        for _ in range(60):
            readers = [random_reader(rng) for _ in range(rng.randint(0, 8))]
            desk = Desk(readers)
            rows = [[]]
            undone = []
            for _ in range(25):
                self.do_one(rng, desk, rows, undone)
                self.assertEqual(desk.fed(), Row(rows[-1]))
                for number, reader in enumerate(readers):
                    self.assertEqual(told_by_desk(desk, number), told(reader, rows[-1]))
            for number, reader in enumerate(readers):
                places = [place for place, event in enumerate(events(reader, rows[-1])) if event == "cut"]
                self.assertEqual(desk.cuts_of(number), places)
                for other, second in enumerate(readers):
                    self.assertEqual(desk.parting(number, other), first_place(reader, second, rows[-1], "part"))

    def do_one(self, rng, desk, rows, undone):
        deed = rng.choice(("feed", "feed_many", "feed_row", "undo", "redo"))
        if deed == "undo" and len(rows) > 1:
            undone.append(rows.pop())
            self.assertIsNone(desk.undo())
        elif deed == "redo" and undone:
            rows.append(undone.pop())
            self.assertIsNone(desk.redo())
        elif deed in ("undo", "redo"):
            self.assert_raises(NothingToUndo, None, None, desk.undo if deed == "undo" else desk.redo)
        else:
            cells = [rng.randint(0, 6) for _ in range(rng.randint(0, 5))]
            if deed == "feed":
                cells = [rng.randint(0, 6)]
                self.assertIsNone(desk.feed(cells[0]))
            elif deed == "feed_many":
                cells = [rng.randint(0, 6)] * len(cells)
                self.assertIsNone(desk.feed_many(len(cells), cells[0] if cells else 3))
            else:
                row = rng.choice((list, tuple, Row))(cells)
                self.assertIsNone(desk.feed_row(row))
            rows.append(rows[-1] + cells)
            undone.clear()

    def test_a_desk_before_all_deeds(self):
        desk = Desk([BLOCK, EACH])
        self.assertEqual(desk.fed(), Row())
        self.assertEqual(seen_from(desk, 2)[2:], ([[], []], [None] * 4))
        self.assertEqual(told_by_desk(desk, 0), (0, None, None, 0, "head", None, 1))
        self.assertEqual(Desk([]).fed().runs, ())

    def test_a_reader_that_refused_looks_at_no_further_cell(self):
        desk = Desk([REFUSES, EACH])
        desk.feed_row([1, 0])
        desk.feed_many(HUGE, 1)
        self.assertEqual(told_by_desk(desk, 0), (0, None, 2, 2, None, None, 0))
        self.assertEqual(desk.told(1).many, HUGE + 2)
        self.assertEqual(desk.parting(0, 1), 1)
        desk.undo()
        desk.undo()
        desk.feed(4)
        self.assertEqual(told_by_desk(desk, 0), (0, None, None, 1, "a", None, 1))

    def test_very_long_rows(self):
        desk = Desk([BLOCK, COUNTED, EACH])
        desk.feed_many(HUGE, 1)
        desk.feed_many(HUGE, 1)
        desk.feed(HUGE)
        desk.feed_row(Row.of_runs([(HUGE, 2), (1, 0)]))
        row = Row.of_runs([(2 * HUGE, 1), (1, HUGE), (HUGE, 2), (1, 0)])
        self.assertEqual(desk.fed(), row)
        for number, reader in enumerate((BLOCK, COUNTED, EACH)):
            self.assertEqual(desk.told(number), run(reader, row))
            self.assertEqual(desk.parting(0, number), parting_place(BLOCK, reader, row))
            self.assert_raises(TooGreat, None, None, desk.cuts_of, number)
        self.assertEqual(desk.told(0).many, HUGE + 2)
        self.assertEqual(desk.told(2).many, 3 * HUGE + 2)

    def test_desks_stand_apart(self):
        readers = [BLOCK]
        one = Desk(readers)
        other = Desk(readers)
        readers.append(EACH)
        readers[0] = REFUSES
        cells = [2, 0, 0]
        one.feed_row(cells)
        cells.append(9)
        cells[0] = 0
        other.feed(5)
        self.assertEqual([one.fed().runs, other.fed().runs], [((1, 2), (2, 0)), ((1, 5),)])
        self.assertEqual([one.told(0).many, other.told(0).many], [1, 0])
        self.assert_raises(NoReader, "number", 1, one.told, 1)
        one.undo()
        self.assertEqual(other.fed(), Row([5]))
        self.assert_raises(NothingToUndo, None, None, other.redo)

    def test_what_was_told_stays(self):
        desk = Desk([EACH, BLOCK])
        desk.feed_row([1, 2])
        before, fed, places = desk.told(0), desk.fed(), desk.cuts_of(0)
        desk.feed_many(3, 7)
        self.assertEqual([before.many, before.last, fed.cells(), places], [2, 2, [1, 2], [1, 2]])
        places.append(0)
        self.assertEqual(desk.cuts_of(0), [1, 2, 3, 4, 5])
        desk.undo()
        self.assertEqual(desk.told(0), before)


class Undoing(Case):
    def test_hundreds_of_deeds_one_by_one(self):
        desk = Desk([BLOCK, COUNTED])
        seen = []
        for place in range(300):
            seen.append(seen_from(desk, 2))
            desk.feed(place % 4)
        for before in seen[::-1]:
            desk.undo()
            self.assertEqual(seen_from(desk, 2), before)
        self.assert_raises(NothingToUndo, None, None, desk.undo)
        for before in seen:
            self.assertEqual(seen_from(desk, 2), before)
            desk.redo()
        self.assertEqual(desk.fed(), Row([place % 4 for place in range(300)]))
        self.assert_raises(NothingToUndo, None, None, desk.redo)

    def test_deeds_without_cells_count(self):
        desk = Desk([EACH])
        desk.feed(1)
        desk.feed_many(0, 5)
        desk.feed_row([])
        desk.feed_row(Row())
        for size in (1, 1, 1, 0):
            desk.undo()
            self.assertEqual(desk.fed().size, size)
        self.assert_raises(NothingToUndo, None, None, desk.undo)
        for _ in range(4):
            desk.redo()
        self.assert_raises(NothingToUndo, None, None, desk.redo)

    def test_a_new_deed_forgets_what_could_be_done_again(self):
        for deed in ("desk.feed(4)", "desk.feed_many(2, 4)", "desk.feed_many(0, 4)", "desk.feed_row([])"):
            desk = Desk([EACH])
            desk.feed(1)
            desk.feed(2)
            desk.undo()
            desk.undo()
            desk.redo()
            eval(deed)
            self.assert_raises(NothingToUndo, None, None, desk.redo)
            desk.undo()
            self.assertEqual(desk.fed(), Row([1]))

    def test_a_deed_that_raised_an_error_changes_nothing(self):
        desk = Desk([BLOCK, EACH])
        desk.feed_row(zigzag(998))
        desk.feed_many(5, 7)
        desk.feed_many(6, 8)
        desk.undo()
        desk.undo()
        fed = desk.fed()
        for error, attribute, value, call, *values in (
            (BadCell, "cell", -1, desk.feed, -1),
            (BadCount, "count", -1, desk.feed_many, -1, 3),
            (BadCell, "cell", -2, desk.feed_many, 1, -2),
            (BadCell, "cell", -4, desk.feed_row, [1, -4]),
            (TooGreat, None, None, desk.feed_row, [5, 6, 7]),
            (TooGreat, None, None, desk.feed_row, Row([5, 6, 7])),
            (NoReader, "number", 2, desk.told, 2),
        ):
            self.assert_raises(error, attribute, value, call, *values)
            self.assertEqual(desk.fed(), fed)
            self.assertEqual(desk.told(1).many, 998)
        desk.redo()
        desk.redo()
        self.assertEqual(desk.fed().runs[-2:], ((5, 7), (6, 8)))
        self.assert_raises(NothingToUndo, None, None, desk.redo)
        self.assert_raises(TooGreat, None, None, desk.feed, 9)
        for size in (1003, 998, 0):
            desk.undo()
            self.assertEqual(desk.fed().size, size)
        self.assert_raises(NothingToUndo, None, None, desk.undo)


class Errors(Case):
    def test_8_and_9_readers(self):
        desk = Desk([EACH] * 8)
        desk.feed(3)
        self.assertEqual(desk.told(7).many, 1)
        self.assert_raises(TooMany, "count", 9, Desk, [EACH] * 9)
        self.assert_raises(TooMany, "count", 12, Desk, (BLOCK,) * 12)

    def test_cells_and_counts_below_0(self):
        desk = Desk([EACH])
        self.assert_raises(BadCell, "cell", -HUGE, desk.feed, -HUGE)
        self.assert_raises(BadCount, "count", -3, desk.feed_many, -3, -4)
        self.assert_raises(BadCell, "cell", -4, desk.feed_many, 0, -4)
        self.assert_raises(BadCell, "cell", -1, desk.feed_row, (3, -1, -2))
        # A list is looked at as a row before anything else.
        self.assert_raises(BadCell, "cell", -1, desk.feed_row, zigzag(1001) + [-1])
        self.assertEqual(desk.fed(), Row())

    def test_rows_of_1000_and_1001_runs(self):
        desk = Desk([EACH])
        desk.feed_row(zigzag(999))
        desk.feed(1)
        self.assertEqual(len(desk.fed().runs), 1000)
        self.assertEqual(desk.cuts_of(0), list(range(1, 1001)))
        for call, *values in ((desk.feed, 0), (desk.feed_many, 1, 0), (desk.feed_row, [1, 0]), (desk.feed_row, Row([2]))):
            self.assert_raises(TooGreat, None, None, call, *values)
        desk.feed(1)
        desk.feed_many(0, 3)
        desk.feed_many(HUGE, 1)
        self.assertEqual(desk.told(0).many, 1001 + HUGE)
        self.assert_raises(TooGreat, None, None, desk.cuts_of, 0)
        self.assert_raises(TooGreat, None, None, Desk([]).feed_row, zigzag(1001))

    def test_a_row_of_1000_and_1001_cells(self):
        desk = Desk([EACH])
        desk.feed_many(1000, 2)
        self.assertEqual(desk.cuts_of(0), cuts(EACH, [2] * 1000))
        desk.feed(2)
        self.assert_raises(TooGreat, None, None, desk.cuts_of, 0)
        self.assert_raises(NoReader, "number", 1, desk.cuts_of, 1)
        self.assert_raises(NoReader, "number", -1, desk.cuts_of, -1)

    def test_numbers_that_no_reader_has(self):
        desk = Desk([EACH, BLOCK])
        for number in (-1, 2, HUGE, -HUGE):
            self.assert_raises(NoReader, "number", number, desk.told, number)
            self.assert_raises(NoReader, "number", number, desk.cuts_of, number)
            self.assert_raises(NoReader, "number", number, desk.parting, number, 7)
            self.assert_raises(NoReader, "number", number, desk.parting, 1, number)
        self.assert_raises(NoReader, "number", 0, Desk([]).told, 0)


if __name__ == "__main__":
    unittest.main()
