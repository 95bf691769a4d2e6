import itertools
import random
import unittest

from helper import EIGHT, SMALL, Case
from plain import Plain, events, first_place, random_pair, random_reader, told
from splitalike.errors import BadCell, TooGreat
from splitalike.readers import Reader
from splitalike.rows import Row
from splitalike.runs import Told, cuts, parting_place, run
from splitalike.texts import read_reader

HUGE = 10 ** 30
PARTS = ("many", "last", "refused", "inside", "line", "kept", "left")
BLOCK = read_reader("head: take body\nbody: skip 0 end\nend: cut")
COUNTED = BLOCK.replaced("body", ("skip", -1, "end"))
EACH = read_reader("a: take end\nend: cut")
ONE_CELL = read_reader("a: case 0 no else end\nend: cut\nno: refuse")


def parts(one):
    return tuple(getattr(one, name) for name in PARTS)


def reader_of(*lines):
    return read_reader("\n".join(lines))


def random_cells(rng, longest):
    great = rng.choice((2, 3, 6, 9, 14))
    return [rng.randint(0, great) for _ in range(rng.randint(0, longest))]


def random_runs(rng):
    return [(rng.choice((0, 1, 1, 2, 3, 30, 200, 700)), rng.choice((0, 1, 2, 3, 5, 6, 7, 40, 300))) for _ in range(4)]


class Runs(Case):
    def test_all_short_rows(self):
        for seed, many in enumerate((1, 2, 3, 4, 5, 6, 7, 8)):
            reader = random_reader(random.Random(seed), many)
            for size in range(5):
                for cells in itertools.product((0, 1, 2, 6), repeat=size):
                    self.assertEqual(parts(run(reader, cells)), told(reader, cells))
        for reader in (Reader(EIGHT), Reader(SMALL)):
            for cells in itertools.product((0, 3, 4, 5, 6), repeat=4):
                self.assertEqual(parts(run(reader, cells)), told(reader, cells))

    def test_readers_of_all_words_on_lists_tuples_and_rows(self):
        rng = random.Random(5)
        words = set()
        for _ in range(1500):
            reader = random_reader(rng)
            words.update(line[0] for _, line in reader.lines)
            cells = random_cells(rng, 40)
            expected = told(reader, cells)
            for row in (cells, tuple(cells), Row(cells)):
                self.assertEqual(parts(run(reader, row)), expected)
        self.assertEqual(len(words), 10)

    def test_rows_of_runs(self):
        rng = random.Random(6)
        for _ in range(600):
            reader = random_reader(rng)
            row = Row.of_runs(random_runs(rng))
            cells = [cell for count, cell in row.runs for _ in range(count)]
            self.assertEqual(parts(run(reader, row)), told(reader, cells))

    def test_a_run_split_in_two_is_the_same_run(self):
        # With counts beyond all cell by cell runs, on cells that make long and short rounds.
        rng = random.Random(7)
        for _ in range(400):
            reader = random_reader(rng)
            cell = rng.choice((0, 1, 2, 3, 7, 10 ** 10, HUGE))
            small = rng.randint(0, 100)
            row = Row.of_runs([(small, rng.choice((0, 1, cell)))]) + Row([cell]) * (HUGE + rng.randint(0, 1000))
            found = run(reader, row)
            ahead = row.part(0, row.size - 1)
            before = run(reader, ahead)
            if found.refused is None and found.last == row.size:
                self.assertEqual((found.many, before.refused, found.inside), (before.many + 1, None, 0))
                self.assertEqual((found.line, found.kept), Plain(reader).begin[:2])
            else:
                self.assertEqual((found.many, found.last), (before.many, before.last))

    def test_very_many_messages(self):
        far = run(BLOCK, Row.of_runs([(HUGE, 4), (1, 0), (2, 1)]))
        # Ten to the power of 30 is a multiple of 5, so the 0 is a message of its own.
        self.assertEqual(parts(far), (HUGE // 5 + 2, HUGE + 3, None, 0, "head", None, 1))
        far = run(BLOCK, Row.of_runs([(HUGE + 3, 4), (1, 0), (2, 1)]))
        self.assertEqual(parts(far), (HUGE // 5 + 1, HUGE + 5, None, 1, "body", None, 1))
        self.assertEqual(run(EACH, Row.of_runs([(HUGE, 8), (HUGE, 9)])).many, 2 * HUGE)

    def test_a_round_without_cuts(self):
        # The kept cell outlasts the round; whether the message ends is told by the last cells.
        reader = reader_of("a: take b", "b: jump 3 c", "c: case 5 d else b", "d: skip 1 e", "e: cut")
        row = Row.of_runs([(1, HUGE), (4 * HUGE + 3, 0), (1, 5)])
        self.assertEqual(parts(run(reader, row)), (0, None, None, 4 * HUGE + 5, "d", None, HUGE + 1))
        row = Row.of_runs([(1, HUGE), (4 * HUGE + 2, 0), (1, 5), (1, 6)])
        self.assertEqual(parts(run(reader, row)), (0, None, None, 4 * HUGE + 5, "b", HUGE, 3))
        row = Row.of_runs([(1, HUGE), (4 * HUGE + 3, 0), (HUGE + 2, 5)])
        self.assertEqual(parts(run(reader, row)), (1, 5 * HUGE + 6, None, 0, "a", None, 1))

    def test_huge_cells_and_skips(self):
        self.assertEqual(parts(run(BLOCK, [HUGE, 1, 1])), (0, None, None, 3, "body", None, HUGE - 2))
        row = Row.of_runs([(1, HUGE), (HUGE, 3), (1, 1)])
        self.assertEqual(parts(run(BLOCK, row)), (1, HUGE + 1, None, 1, "body", None, 1))
        self.assertEqual(parts(run(COUNTED, row)), (1, HUGE, None, 2, "body", None, 1))
        keeps = reader_of("a: take b", "b: jump 4 c", "c: refuse")
        self.assertEqual(parts(run(keeps, [HUGE, 0])), (0, None, None, 2, "b", HUGE, 3))
        self.assertEqual(run(keeps, Row.of_runs([(HUGE, 1)])).refused, 5)
        rest = reader_of("a: rest 4 b", "b: jump 1 c", "c: cut")
        self.assertEqual(run(rest, [4 * HUGE + 3]).kept, 3)
        self.assertEqual(run(rest.replaced("a", ("cap", 5, "b")), [HUGE]).kept, 5)

    def test_place_0(self):
        self.assertEqual(parts(run(BLOCK, [])), (0, None, None, 0, "head", None, 1))
        # Silent lines are gone through in front of the first cell, and again behind each cut.
        reader = reader_of("a: set 3 b", "b: upto 2 e else c", "c: jump 2 d", "d: cut", "e: jump 1 d")
        self.assertEqual(parts(run(reader, ())), (0, None, None, 0, "c", 3, 2))
        self.assertEqual(parts(run(reader, [9])), (0, None, None, 1, "c", 3, 1))
        self.assertEqual(parts(run(reader, [9, 9])), (1, 2, None, 0, "c", 3, 2))

    def test_silent_lines_at_the_end_of_the_row(self):
        reader = reader_of("a: cap 5 b", "b: skip -2 c", "c: cut")
        self.assertEqual(parts(run(reader, [2])), (1, 1, None, 0, "a", None, 1))
        self.assertEqual(parts(run(reader, [3])), (0, None, None, 1, "b", None, 1))

    def test_a_skip_of_a_sum_just_below_0(self):
        reader = reader_of("a: take b", "b: skip -3 c", "c: cut")
        self.assertEqual(parts(run(reader, [3, 2, 1])), (1, 1, 2, 1, None, None, 0))
        self.assertEqual(parts(run(reader, [0])), (0, None, 1, 1, None, None, 0))

    def test_a_skip_and_an_upto_with_none_kept(self):
        reader = reader_of("a: jump 1 b", "b: skip 4 c", "c: cut")
        self.assertEqual(parts(run(reader, [7])), (0, None, 1, 1, None, None, 0))
        again = reader_of("a: take b", "b: skip 0 c", "c: skip 4 d", "d: cut")
        self.assertEqual(run(again, [0]).refused, 1)
        self.assertEqual(run(again, [2, 9, 9]).refused, 3)
        upto = reader_of("a: jump 1 b", "b: upto 5 no else c", "c: cut", "no: refuse")
        self.assertEqual(run(upto, [0]).many, 1)

    def test_upto_at_its_number(self):
        reader = reader_of("a: take b", "b: upto 3 c else no", "c: cut", "no: refuse")
        self.assertEqual(run(reader, [3, 4]).refused, 2)
        self.assertEqual(run(reader, [3, 4]).last, 1)

    def test_case_values_at_5_and_beyond(self):
        reader = reader_of("a: case 5 b 0 c else no", "b: cut", "c: jump 1 b", "no: refuse")
        self.assertEqual(cuts(reader, [5, 0, 6, 5]), [1, 3, 4])
        for cell in (4, 6, 10, HUGE):
            self.assertEqual(run(reader, [cell]).refused, 1)

    def test_case_jump_and_upto_leave_what_is_kept(self):
        reader = reader_of("a: take b", "b: case else c", "c: jump 2 d",
                           "d: upto 1 b else e", "e: skip 0 f", "f: cut")
        self.assertEqual(run(reader, [2, 0]).kept, 2)
        self.assertEqual(run(reader, [2, 0, 0]).kept, 2)
        self.assertEqual(parts(run(reader, [2, 0, 0, 0])), (0, None, None, 4, "e", None, 2))
        self.assertEqual(parts(run(reader, [1, 0, 0, 0])), (0, None, None, 4, "b", 1, 1))

    def test_what_is_kept_is_replaced_and_lost(self):
        reader = reader_of("a: take b", "b: rest 3 c", "c: cap 4 d", "d: set 2 e", "e: skip 0 f", "f: jump 1 g", "g: cut")
        self.assertEqual([run(reader, [8, 8, 9][:size]).kept for size in range(4)], [None, 8, 2, None])
        self.assertEqual(run(reader, [8, 8, 9]).left, 2)
        self.assertEqual(run(reader, [8, 8, 9, 0, 0]).kept, None)
        self.assertEqual(run(reader, [8, 8, 9, 0, 0]).line, "f")

    def test_cuts_before_a_refusal_stay(self):
        self.assertEqual(parts(run(ONE_CELL, [1, 2, 0, 3, 3])), (2, 2, 3, 1, None, None, 0))
        self.assertEqual(cuts(ONE_CELL, [1, 2, 0, 3, 3]), [1, 2])
        row = Row.of_runs([(HUGE, 1), (HUGE, 0), (HUGE, 1)])
        self.assertEqual(parts(run(ONE_CELL, row)), (HUGE, HUGE, HUGE + 1, 1, None, None, 0))

    def test_told_are_compared_by_all_their_parts(self):
        values = (3, 7, 9, 2, "a", 5, 1)
        self.assertEqual(Told(*values), Told(*values))
        for place in range(7):
            others = [*values]
            others[place] = None
            self.assertNotEqual(Told(*values), Told(*others))
        self.assertFalse(Told(*values) == values)
        self.assertEqual(run(BLOCK, [2, 7]), run(BLOCK, Row([2, 7])))
        self.assertNotEqual(run(BLOCK, [2, 7]), run(BLOCK, [2]))
        self.assertEqual([getattr(Told(*values), name) for name in PARTS], list(values))

    def test_what_is_handed_in_stays(self):
        cells = [2, 7, 7, 0]
        row = Row(cells)
        for call in (run, cuts):
            call(BLOCK, cells)
            call(BLOCK, row)
        parting_place(BLOCK, COUNTED, cells)
        self.assertEqual(cells, [2, 7, 7, 0])
        self.assertEqual(row, Row(cells))
        self.assertEqual(BLOCK, read_reader("head: take body\nbody: skip 0 end\nend: cut"))


class Cuts(Case):
    def test_cuts(self):
        rng = random.Random(8)
        for _ in range(1200):
            reader = random_reader(rng)
            cells = random_cells(rng, 40)
            expected = [place for place, event in enumerate(events(reader, cells)) if event == "cut"]
            for row in (cells, tuple(cells), Row(cells)):
                self.assertEqual(cuts(reader, row), expected)

    def test_a_new_list_each_time(self):
        found = cuts(EACH, [1, 2])
        found.append(9)
        self.assertEqual(cuts(EACH, [1, 2]), [1, 2])

    def test_rows_of_1000_and_1001_cells(self):
        self.assertEqual(cuts(EACH, [4] * 1000), list(range(1, 1001)))
        self.assertEqual(cuts(EACH, Row.of_runs([(999, 4), (1, 5)]))[-1], 1000)
        for row in ([4] * 1001, (4,) * 1001, Row([4]) * 1001, Row([4]) * HUGE):
            self.assert_raises(TooGreat, None, None, cuts, EACH, row)


class Parting(Case):
    def test_parting_places(self):
        rng = random.Random(9)
        found = 0
        for _ in range(2500):
            one, other = random_pair(rng)
            cells = random_cells(rng, 30)
            place = first_place(one, other, cells, "part")
            found += place is not None
            for row in (cells, tuple(cells), Row(cells)):
                self.assertEqual(parting_place(one, other, row), place)
            self.assertEqual(parting_place(other, one, cells), place)
        self.assertGreater(found, 500)

    def test_rows_of_runs(self):
        rng = random.Random(10)
        found = 0
        for _ in range(800):
            one, other = random_pair(rng)
            row = Row.of_runs(random_runs(rng))
            cells = [cell for count, cell in row.runs for _ in range(count)]
            place = first_place(one, other, cells, "part")
            found += place is not None and place > 3
            self.assertEqual(parting_place(one, other, row), place)
        self.assertGreater(found, 40)

    def test_refusals_at_and_ahead_of_and_behind_a_cut(self):
        cut2 = reader_of("a: jump 2 b", "b: cut")
        cut3 = reader_of("a: jump 3 b", "b: cut")
        refuse = {place: reader_of(f"a: jump {place} b", "b: refuse") for place in (1, 2, 3)}
        self.assertEqual([parting_place(cut2, refuse[place], [0] * 4) for place in (1, 2, 3)], [None, None, 2])
        self.assertEqual([parting_place(refuse[place], cut2, [0] * 4) for place in (1, 2, 3)], [None, None, 2])
        self.assertEqual(parting_place(refuse[2], refuse[2], [0] * 4), None)
        self.assertEqual(parting_place(cut2, cut3, [0] * 4), 2)
        self.assertEqual(parting_place(cut2, cut3, [0]), None)
        # A cut of both, then one refuses behind it, ahead of the next cut.
        once = reader_of("a: case 0 b else no", "b: jump 1 c", "c: cut", "no: refuse")
        self.assertEqual(parting_place(cut2, once, [0, 1, 1, 1, 1]), None)
        self.assertEqual(parting_place(cut2, once, [0, 1, 0, 1, 0]), None)

    def test_the_end_of_the_row(self):
        self.assertEqual(parting_place(BLOCK, COUNTED, [1]), 1)
        self.assertEqual(parting_place(BLOCK, COUNTED, []), None)
        self.assertEqual(parting_place(BLOCK, COUNTED, [3, 0, 0]), 3)
        self.assertEqual(parting_place(BLOCK, COUNTED, [3, 0]), None)

    def test_huge_numbers(self):
        row = Row.of_runs([(1, HUGE), (2 * HUGE, 5)])
        self.assertEqual(parting_place(BLOCK, COUNTED, row), HUGE)
        self.assertEqual(parting_place(BLOCK, COUNTED, row.part(0, HUGE - 1)), None)
        self.assertEqual(parting_place(BLOCK, BLOCK, row), None)

    def test_both_cut_alike_very_often(self):
        # Alike on all cells but 3: that one comes behind very many messages, in one of them.
        fixed = reader_of("a: jump 4 b", "b: cut")
        watched = reader_of("a: jump 1 b", "b: case 3 c else d", "c: cut", "d: jump 2 c")
        for more in range(4):
            row = Row.of_runs([(4 * HUGE + more, 1), (9, 3)])
            self.assertEqual(parting_place(fixed, watched, row), 4 * HUGE + (6 if more == 2 or more == 3 else 2))
            row = Row.of_runs([(4, 2), (4 * HUGE + more, 1), (4, 3)])
            self.assertEqual(parting_place(fixed, watched, row), 4 * HUGE + (10 if more == 2 or more == 3 else 6))
        self.assertEqual(parting_place(fixed, watched, Row.of_runs([(4 * HUGE, 1)])), None)

    def test_rounds_of_unlike_lengths(self):
        # No cut before the last cell, and rounds of 3 and 4 cells until then.
        three = reader_of("a: case 5 end else b", "b: jump 2 a", "end: cut")
        four = reader_of("a: case 5 end else b", "b: jump 3 a", "end: cut")
        self.assertEqual(parting_place(three, four, Row.of_runs([(12 * HUGE, 1), (1, 5)])), None)
        self.assertEqual(parting_place(three, four, Row.of_runs([(12 * HUGE + 3, 1), (1, 5)])), 12 * HUGE + 4)
        self.assertEqual(parting_place(three, four, Row.of_runs([(12 * HUGE + 4, 1), (1, 5)])), 12 * HUGE + 5)
        self.assertEqual(parting_place(three, four, Row.of_runs([(12 * HUGE + 5, 1), (3, 5)])), 12 * HUGE + 7)


class WrongRows(Case):
    def test_cells_below_0(self):
        for row in ([1, -1], (1, -1, -5), [-1, 2, 3], [0, -1] + [1, 2] * 600):
            self.assert_raises(BadCell, "cell", -1, run, BLOCK, row)
            self.assert_raises(BadCell, "cell", -1, cuts, BLOCK, row)
            self.assert_raises(BadCell, "cell", -1, parting_place, BLOCK, COUNTED, row)
        # Behind a refusal, and behind 1,000 runs, it is still a cell below 0.
        self.assert_raises(BadCell, "cell", -HUGE, run, ONE_CELL, [0, 0, -HUGE])
        self.assert_raises(BadCell, "cell", -7, run, BLOCK, [1, 2] * 600 + [-7])
        self.assert_raises(BadCell, "cell", -7, cuts, BLOCK, [1] * 1001 + [-7])

    def test_rows_of_1000_and_1001_runs(self):
        long = [1, 2] * 500
        self.assertEqual(run(EACH, long).many, 1000)
        self.assertEqual(cuts(EACH, long)[-1], 1000)
        self.assertEqual(parting_place(EACH, EACH, long), None)
        for row in (long + [1], tuple(long) + (1,)):
            self.assert_raises(TooGreat, None, None, run, EACH, row)
            self.assert_raises(TooGreat, None, None, cuts, EACH, row)
            self.assert_raises(TooGreat, None, None, parting_place, EACH, EACH, row)
        self.assertEqual(run(EACH, long + [2] * 5).many, 1005)


if __name__ == "__main__":
    unittest.main()
