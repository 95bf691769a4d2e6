import itertools
import random
import unittest

from chosen import PAIRS
from helper import Case
from plain import (changed_reader, early_of, first_place, guarded_pairs, late_of, pairs_cut_in_the_last_stretch, random_pair,
                   random_reader, reader_of, searched, skipping_pair)
from splitalike.errors import BadCell, SplitError, TooGreat
from splitalike.parting import differing, differing_place, parted
from splitalike.readers import Reader
from splitalike.rows import Row
from splitalike.runs import parting_place
from splitalike.texts import read_reader

HUGE = 10 ** 30
BLOCK = read_reader("head: take body\nbody: skip 0 end\nend: cut")
COUNTED = BLOCK.replaced("body", ("skip", -1, "end"))
PIECES = read_reader("size: take test\ntest: upto 0 end else data\ndata: skip 0 size\nend: cut")
SHOWN = {"part": (parted, parting_place), "differ": (differing, differing_place)}


REFUSES = reader_of("a: jump 1 no", "no: refuse")


class Answers(Case):
    def check(self, one, other, most, longest, asked="part"):
        """Compares what is told, in both orders, with runs on its row and with a search over small rows."""
        tells, place_of = SHOWN[asked]
        found = searched(one, other, asked, most, longest).get(asked)
        for pair in ((one, other), (other, one)):
            row = tells(*pair)
            if row is None:
                self.assertIsNone(found, pair)
                continue
            self.assertIsInstance(row, tuple)
            self.assertTrue(all(type(cell) is int and cell >= 0 for cell in row))
            self.assertEqual(first_place(*pair, row, asked), len(row), (pair, row))
            self.assertEqual(place_of(*pair, row), len(row))
            if found is not None:
                self.assertLessEqual(len(row), found, (pair, row))
            if len(row) <= longest and max(row) <= most:
                self.assertEqual(len(row), found, (pair, row))
            # Greater cells could only be there for a skip beyond the end of such a short row.
            if len(row) + 4 + 12 <= most:
                self.assertEqual(len(row), found, (pair, row))
        return row


class Parted(Answers):
    def test_random_readers(self):
        rng = random.Random(11)
        lengths = {}
        for _ in range(1500):
            row = self.check(*random_pair(rng), 7, 7)
            length = None if row is None else len(row)
            lengths[length] = lengths.get(length, 0) + 1
        self.assertGreater(lengths[None], 400)
        self.assertGreater(sum(many for length, many in lengths.items() if length is not None and length > 3), 40)

    def test_random_readers_on_greater_cells(self):
        rng = random.Random(12)
        for _ in range(250):
            self.check(*random_pair(rng), 21, 5)

    def test_readers_of_eight_lines(self):
        rng = random.Random(13)
        words = set()
        for _ in range(250):
            pair = [random_reader(rng, 8) for _ in range(2)]
            words.update(line[0] for reader in pair for _, line in reader.lines)
            self.check(*pair, 7, 6)
            self.check(pair[0], changed_reader(rng, pair[0]), 7, 6)
        self.assertEqual(len(words), 10)

    def test_all_pairs_of_little_readers(self):
        readers = []
        for first in (("take", "b"), ("rest", 2, "b"), ("case", ((0, "c"), (2, "b")), "b"), ("jump", 2, "b")):
            for second in (("skip", 0, "c"), ("skip", -1, "c"), ("upto", 1, "c", "a"), ("cap", 2, "c"), ("cut",)):
                for third in (("cut",), ("refuse",), ("take", "b")):
                    try:
                        readers.append(Reader([("a", first), ("b", second), ("c", third)]))
                    except SplitError:
                        pass
        self.assertGreater(len(readers), 40)
        for one, other in itertools.combinations(readers, 2):
            self.check(one, other, 5, 5)

    def test_the_examples(self):
        self.assertEqual(parted(BLOCK, COUNTED), (1,))
        self.assertEqual([len(parted(BLOCK, PIECES)), parted(BLOCK, PIECES)[0]], [2, 1])
        self.assertIsNone(parted(PIECES, PIECES))
        row = parted(early_of(5, 0), late_of(3, 0, 1))
        self.assertEqual([len(row), row[0], row[8], row[18]], [19, 8, 0, 2])

    def test_a_reader_and_itself(self):
        rng = random.Random(14)
        for _ in range(200):
            reader = random_reader(rng)
            again = Reader(reader.lines)
            self.assertIsNone(parted(reader, again))
            self.assertIsNone(differing(reader, again))

    def test_other_names_and_another_order_of_lines(self):
        other = reader_of("part: take shared", "fixed: cut", "shared: skip 0 fixed", "late: jump 1 early", "early: refuse")
        self.assertIsNone(parted(BLOCK, other))
        self.assertIsNone(differing(BLOCK, other))
        self.assertEqual(parted(COUNTED, other), (1,))

    def test_a_reader_that_refuses_behind_each_first_cell(self):
        for reader in (BLOCK, COUNTED, PIECES):
            self.assertIsNone(parted(reader, REFUSES))
            self.assertEqual(len(differing(reader, REFUSES)), 1)
        self.assertIsNone(differing(REFUSES, REFUSES))

    def test_a_refusal_ahead_of_at_and_behind_a_cut(self):
        cut = reader_of("a: jump 3 b", "b: cut")
        for place, expected in ((1, None), (2, None), (3, None), (4, 3)):
            refuses = reader_of(f"a: jump {place} b", "b: refuse")
            row = self.check(cut, refuses, 3, 6)
            self.assertEqual(row and len(row), expected)
            self.assertEqual(len(self.check(cut, refuses, 3, 6, "differ")), min(place, 3))

    def test_rows_that_end_with_a_cut_of_both_are_left_out(self):
        # They part in each second message only.
        one = reader_of("a: jump 2 b", "b: cut")
        other = reader_of("a: jump 2 b", "b: case 0 c else d", "c: cut", "d: jump 1 c")
        row = self.check(one, other, 4, 8)
        self.assertEqual(len(row), 2)

    def test_the_first_great_cell(self):
        # The greatest number that they name is n, so that cells of n + 1 and more are alike.
        for number in range(6):
            one = reader_of("a: take b", f"b: upto {number} c else no", "c: jump 1 d", "d: cut", "no: refuse")
            for other, expected in (
                (one.replaced("b", ("upto", max(0, number - 1), "c", "no")), None),
                (reader_of("a: jump 2 b", "b: cut"), None),
                (reader_of("a: jump 2 b", "b: jump 1 c", "c: cut"), 2),
            ):
                row = self.check(one, other, 9, 4)
                self.assertEqual(row and len(row), expected)
            values = [(value, "no") for value in range(number + 1)]
            great = Reader([("a", ("case", values, "c")), ("c", ("cut",)), ("no", ("refuse",))])
            row = self.check(great, reader_of("a: jump 2 b", "b: cut"), 9, 4)
            self.assertEqual([len(row), row[0] > number], [1, True])

    def test_constants_below_0_are_numbers_that_are_named(self):
        for constant in (-3, -2, -1):
            one = reader_of("a: take b", f"b: skip {constant} c", "c: cut")
            for more in range(-3, 5):
                other = reader_of("a: take b", f"b: skip {more} c", "c: cut")
                row = self.check(one, other, 9, 8)
                self.assertEqual(row, None if more == constant else (max(-constant, -more),))

    def test_what_the_other_reader_keeps_of_a_cell(self):
        # The first skip goes in steps, as the other reader goes on by the rest of the cell.
        for width in (2, 3, 4):
            for rest in range(width):
                one = reader_of("a: take b", "b: skip 1 c", "c: cut")
                lines = [f"a: rest {width} b", f"b: upto {rest} c else no", "c: jump 1 d", "d: skip 0 e", "e: cut"]
                self.check(one, reader_of(*lines, "no: refuse"), 16, 12)
                lines[2] = "c: jump 4 d"
                self.check(one, reader_of(*lines, "no: refuse"), 20, 12)
        # Even cells alone: a skip of an even number of cells ends in the rounds of two cells.
        one = reader_of("a: take b", "b: skip 2 c", "c: jump 1 d", "d: refuse")
        other = reader_of("a: rest 2 b", "b: upto 0 c else no", "c: jump 2 c", "no: refuse", "e: cut")
        self.assertIsNone(self.check(one, other, 8, 12))

    def test_skips_in_steps_in_rounds(self):
        for width, first, second in itertools.product((2, 3, 4), (1, 2, 3), (0, 1)):
            one = reader_of("a: take b", "b: skip 0 c", "c: case 1 no else d", "d: jump 1 e", "e: cut", "no: refuse")
            other = reader_of(f"a: rest {width} b", f"b: upto {second} c else no", f"c: jump {first} d",
                              "d: case 1 e else c", "e: refuse", "no: refuse")
            self.check(one, other, 14, 14)


    def test_skips_that_are_to_end_at_one_cell_of_a_round(self):
        # The first reader cuts behind a 0 at the end of its skip; the other one lets a 0 pass at just
        # one cell of its rounds. The numbers that they name make small skips fail.
        lengths = set()
        for width, ring, number, more in itertools.product((0, 2, 3, 4), (2, 3, 4, 5), (0, 3, 5), (-3, 0, 4)):
            one = reader_of("a: take b", f"b: upto {number} no else c", f"c: skip {more} d", "d: case 0 e else no",
                            "e: cut", "no: refuse")
            first = [f"a: rest {width} b", "b: upto 1 c else no"] if width else ["a: jump 1 c"]
            names = "cdefg"[:ring]
            rounds = [f"{name}: case 0 no else {follower}" for name, follower in zip(names, names[1:])]
            other = reader_of(*first, *rounds, f"{names[-1]}: jump 1 c", "no: refuse")
            row = self.check(one, other, 20, 26)
            lengths.add(row and len(row))
        self.assertGreater(len(lengths), 10)


class Skips(Answers):
    def test_two_skips_by_one_number(self):
        for more, constant in itertools.product(range(-3, 5), repeat=2):
            for wait in (1, 3):
                one = reader_of("a: take b", f"b: skip {more} c", "c: jump 2 d", "d: cut")
                other = reader_of("a: take b", f"b: jump {wait} c", f"c: skip {constant} d", "d: cut")
                # Both skip x and some more: they are alike if the sums are the same.
                row = self.check(one, other, 8, 9)
                if row is None:
                    self.assertEqual(more + 2, wait + constant)
                self.check(one.replaced("d", ("refuse",)), other, 8, 9, "differ")

    def test_two_skips_that_begin_at_one_place(self):
        for more, constant in itertools.product(range(-3, 5), repeat=2):
            lines = ["c: case 0 c 1 d else no", "d: cut", "no: refuse"]
            one = reader_of("a: take b", f"b: skip {more} c", *lines)
            other = reader_of("a: take b", f"b: skip {constant} e", "e: jump 2 c", *lines)
            self.check(one, other, 8, 10)
            self.check(one, other, 8, 10, "differ")
            # The skip that ends first leaves just so many cells of the other one.
            strict = reader_of("a: take b", f"b: skip {more} c", "c: case 0 c 1 e else no", "d: cut",
                               "e: case 2 d else no", "no: refuse")
            self.check(strict, reader_of("a: take b", f"b: skip {constant} c", "c: case 2 d else no", "d: refuse",
                                         "no: refuse"), 8, 12, "differ")
            self.check(strict, reader_of("a: take b", f"b: skip {constant} c", "c: case 2 d else no", "d: take e",
                                         "e: cut", "no: refuse"), 8, 12)

    def test_rounds_in_the_first_and_in_the_last_stretch(self):
        lengths = set()
        for ring, first, second in itertools.product((1, 2, 3), (1, 2, 3, 4), (0, 2)):
            for more, constant in ((0, 1), (4, -3), (-3, 4), (1, 1)):
                row = self.check(early_of(ring, more), late_of(first, second, constant), 11, 16)
                lengths.add(row and len(row))
        self.assertGreater(len(lengths), 15)

    def test_rounds_of_9_and_5_cells(self):
        early, late = early_of(5, 0), late_of(4, 4, 0)
        lengths = []
        for more in range(-3, 5):
            for one, other in ((early, late.replaced("body", ("skip", more, "w"))),
                               (early.replaced("body", ("skip", more, "a")), late)):
                row = parted(one, other)
                self.assertEqual(first_place(one, other, row, "part"), len(row))
                self.assertEqual(len(parted(other, one)), len(row))
                self.assertEqual(searched(one, other, "part", 60, len(row)), {"part": len(row)})
                lengths.append(len(row))
        self.assertEqual(max(lengths), 96)

    def test_rounds_that_never_fit(self):
        # The early reader lets a 2 pass behind an even number of cells; the late one skips behind an odd one.
        early = early_of(2, 0)
        self.assertIsNone(parted(early, late_of(1, 0, 0)))
        self.assertEqual(len(parted(early, late_of(1, 0, 1))), len(parted(late_of(1, 0, 1), early)))
        for first, second, constant in itertools.product((1, 2, 3, 4), (0, 1, 2), (-3, 0, 1, 4)):
            self.check(early, late_of(first, second, constant), 10, 18)

    def test_a_gap_between_two_skips(self):
        # The late reader skips behind the early skip's end: on a 5, which the early one reads.
        early = reader_of("a: take b", "b: skip 0 c", "c: case 5 d else no", "d: case 1 e else d", "e: cut", "no: refuse")
        for constant in range(-3, 5):
            late = reader_of("a: take b", "b: case 5 c else b", f"c: skip {constant} d", "d: case 1 e else no",
                             "e: cut", "no: refuse")
            self.check(early, late, 9, 14)
            self.check(early, late.replaced("e", ("refuse",)), 9, 14, "differ")

    def test_what_both_keep_is_replaced_by_one(self):
        # The late reader lets go of the number in the first stretch.
        early = reader_of("a: take b", "b: skip 0 c", "c: jump 1 d", "d: cut")
        for line in ("c: take d", "c: rest 2 d", "c: cap 3 d", "c: jump 1 f"):
            late = reader_of("a: take b", "b: jump 2 c", line, "d: skip 1 e", "e: cut", "f: set 2 d")
            self.check(early, late, 9, 9)

    def test_random_readers_that_skip_by_one_number(self):
        rng = random.Random(18)
        longest = 0
        for _ in range(700):
            pair = skipping_pair(rng)
            row = self.check(*pair, 20, 30)
            longest = max(longest, len(row or ()))
            self.check(*pair, 20, 30, "differ")
        self.assertGreater(longest, 20)

    def test_great_numbers_alone(self):
        for one, other in guarded_pairs():
            self.check(one, other, 14, 16)
            self.check(one, other, 14, 16, "differ")

    def test_rows_that_end_within_the_last_stretch(self):
        for one, other in pairs_cut_in_the_last_stretch():
            self.check(one, other, 16, 18)
            self.check(one, other, 16, 18, "differ")

    def test_chosen_pairs(self):
        for texts in PAIRS:
            one, other = [read_reader(text) for text in texts]
            self.check(one, other, 20, 40)
            self.check(one, other, 20, 40, "differ")

    def test_no_numbers_are_named(self):
        ends = ("c: cut", "c: jump 1 d", "c: take d", "c: refuse")
        for first, second in itertools.product(ends, ends):
            one = reader_of("a: take b", "b: skip 0 c", first, "d: cut")
            self.check(one, reader_of("a: take b", "b: skip 0 c", second, "d: cut"), 6, 6)
            self.check(one, reader_of("a: take b", "b: skip 0 c", second, "d: cut"), 6, 6, "differ")

    def test_skips_that_end_beyond_the_row(self):
        # The number must be great enough, and still be one that lets the other reader go on.
        one = reader_of("a: take b", "b: upto 2 no else c", "c: skip 0 no", "no: refuse")
        other = reader_of("a: case 0 no 1 no 2 no else b", "b: jump 3 no", "no: refuse")
        row = self.check(one, other, 9, 6, "differ")
        self.assertEqual([len(row), row[0] > 3], [4, True])
        one = reader_of("a: take b", "b: skip 0 no", "no: refuse")
        for width in (2, 3, 4):
            other = reader_of(f"a: rest {width} b", "b: upto 0 c else no", "c: jump 4 d", "d: jump 2 e", "e: cut", "no: refuse")
            row = self.check(one, other, 16, 9)
            self.assertEqual([len(row), row[0] > 6, row[0] % width], [7, True, 0])

    def test_huge_numbers_are_not_needed(self):
        # A skip beyond the end of a row need not be longer than just beyond it.
        row = parted(reader_of("a: take b", "b: skip 4 c", "c: cut"), reader_of("a: jump 4 b", "b: jump 4 c", "c: cut"))
        self.assertLess(max(row), 20)


class Differing(Answers):
    def test_random_readers(self):
        rng = random.Random(15)
        none = 0
        for _ in range(1500):
            pair = random_pair(rng)
            row = self.check(*pair, 7, 7, "differ")
            none += row is None
            if row is None:
                self.assertIsNone(parted(*pair))
        self.assertGreater(none, 200)

    def test_random_readers_on_greater_cells(self):
        rng = random.Random(16)
        for _ in range(250):
            self.check(*random_pair(rng), 21, 5, "differ")

    def test_the_example(self):
        self.assertEqual(len(differing(BLOCK, COUNTED)), 1)

    def test_one_cuts_where_the_other_refuses(self):
        cut = reader_of("a: jump 2 b", "b: cut")
        refuses = reader_of("a: jump 2 b", "b: refuse")
        self.assertEqual(len(differing(cut, refuses)), 2)
        self.assertIsNone(parted(cut, refuses))

    def test_both_refuse_and_nothing_is_compared_behind(self):
        one = reader_of("a: case 1 no else b", "b: cut", "no: refuse")
        other = reader_of("a: take b", "b: upto 0 c else d", "c: cut", "d: upto 1 no else c", "no: refuse")
        self.assertIsNone(differing(one, other))


class Places(Case):
    def test_random_rows(self):
        rng = random.Random(17)
        found = 0
        for _ in range(2500):
            one, other = random_pair(rng)
            cells = [rng.randint(0, rng.choice((2, 6, 9))) for _ in range(rng.randint(0, 25))]
            place = first_place(one, other, cells, "differ")
            found += place is not None and place > 1
            for row in (cells, tuple(cells), Row(cells)):
                self.assertEqual(differing_place(one, other, row), place)
            self.assertEqual(differing_place(other, one, cells), place)
        self.assertGreater(found, 300)

    def test_the_examples(self):
        places = [differing_place(BLOCK, COUNTED, [0, 5]), differing_place(BLOCK, COUNTED, [2, 0]),
                  differing_place(BLOCK, PIECES, [0, 0, 2])]
        self.assertEqual(places, [1, 2, None])

    def test_refusals(self):
        two = reader_of("a: jump 2 b", "b: refuse")
        self.assertEqual(differing_place(two, REFUSES, [4, 4, 4]), 1)
        self.assertEqual(differing_place(REFUSES, two, [4]), 1)
        self.assertEqual(differing_place(two, two, [4, 4, 4]), None)
        self.assertEqual(differing_place(two, reader_of("a: jump 2 b", "b: cut"), [4, 4, 4]), 2)
        self.assertEqual(differing_place(two, reader_of("a: jump 3 b", "b: cut"), [4]), None)
        self.assertEqual(differing_place(two, REFUSES, []), None)

    def test_wrong_rows(self):
        fits = [0] * 1000
        self.assertEqual(differing_place(BLOCK, COUNTED, fits), 1)
        self.assertEqual(differing_place(BLOCK, BLOCK, [0, 1] * 500), None)
        for row in ([0] * 1001, Row([0]) * 1001, Row([0]) * HUGE, [0, 1] * 500 + [0]):
            self.assert_raises(TooGreat, None, None, differing_place, BLOCK, COUNTED, row)
        for row in ([0, -1], (-1, -2), [0] * 1001 + [-1], [0, 1] * 501 + [-1]):
            self.assert_raises(BadCell, "cell", -1, differing_place, BLOCK, COUNTED, row)


if __name__ == "__main__":
    unittest.main()
