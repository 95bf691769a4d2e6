import itertools
import random
import unittest

from chosen import PAIRS
from helper import EIGHT, Case
from plain import (changed_reader, first_place, guarded_pairs, pairs_cut_in_the_last_stretch, random_pair, random_reader,
                   reader_of, searched, skipping_pair)
from splitalike.bounded import parted_within
from splitalike.errors import BadBound, TooGreat
from splitalike.parting import parted
from splitalike.readers import Reader
from splitalike.runs import cuts, parting_place, run
from splitalike.texts import read_reader, written

# As long as rows with small cells ever need to be: the search ends before.
ANY_LENGTH = 10 ** 6
HUGE = 10 ** 30
BLOCK = read_reader("head: take body\nbody: skip 0 end\nend: cut")
COUNTED = BLOCK.replaced("body", ("skip", -1, "end"))


class Within(Case):
    def check(self, one, other, bound):
        """Compares what is told, in both orders, with runs on its row and with a search over all rows."""
        found = searched(one, other, "part", bound, ANY_LENGTH).get("part")
        for pair in ((one, other), (other, one)):
            row = parted_within(*pair, bound)
            self.assertEqual(None if row is None else len(row), found, (pair, bound))
            if row is not None:
                self.check_row(*pair, bound, row)
        return row

    def check_row(self, one, other, bound, row):
        self.assertIsInstance(row, tuple)
        self.assertTrue(all(type(cell) is int and 0 <= cell <= bound for cell in row))
        self.assertEqual(first_place(one, other, row, "part"), len(row))
        self.assertEqual(parting_place(one, other, row), len(row))
        self.assertEqual([run(reader, row).refused for reader in (one, other)], [None, None])
        self.assertEqual(sorted([cuts(one, row), cuts(other, row)]), [[], [len(row)]])

    def test_all_short_rows(self):
        rng = random.Random(241)
        parts = 0
        for bound, longest in ((0, 9), (1, 7), (2, 5), (3, 4), (5, 3), (12, 2)):
            rows = [cells for size in range(1, longest + 1) for cells in itertools.product(range(bound + 1), repeat=size)]
            for _ in range(12):
                one, other = random_pair(rng)
                found = [len(cells) for cells in rows if first_place(one, other, cells, "part") == len(cells)]
                row = parted_within(one, other, bound)
                if row is None or len(row) > longest:
                    self.assertEqual(found, [])
                else:
                    self.assertEqual(len(row), min(found))
                    self.check_row(one, other, bound, row)
                    parts += 1
        self.assertGreater(parts, 20)

    def test_random_readers(self):
        rng = random.Random(242)
        lengths = {}
        for number in range(1300):
            row = self.check(*random_pair(rng), number % 13)
            length = None if row is None else len(row)
            lengths[length] = lengths.get(length, 0) + 1
        self.assertGreater(lengths[None], 300)
        self.assertGreater(sum(many for length, many in lengths.items() if length is not None and length > 3), 30)

    def test_readers_of_eight_lines(self):
        rng = random.Random(243)
        words = set()
        for number in range(300):
            pair = [random_reader(rng, 8) for _ in range(2)]
            words.update(line[0] for reader in pair for _, line in reader.lines)
            self.check(*pair, number % 13)
            self.check(pair[0], changed_reader(rng, pair[0]), rng.randint(0, 12))
        self.assertEqual(len(words), 10)

    def test_readers_of_one_to_eight_lines(self):
        rng = random.Random(244)
        for many in range(1, 9):
            for other in range(1, 9):
                self.check(random_reader(rng, many), random_reader(rng, other), rng.randint(0, 12))

    def test_random_readers_that_skip_by_one_number(self):
        rng = random.Random(245)
        longest = 0
        for number in range(400):
            row = self.check(*skipping_pair(rng), number % 13)
            longest = max(longest, len(row or ()))
        self.assertGreater(longest, 20)

    def test_great_numbers_alone(self):
        for number, (one, other) in enumerate([*guarded_pairs(), *pairs_cut_in_the_last_stretch()]):
            self.check(one, other, (12, 4, 8, 2)[number % 4])

    def test_chosen_pairs(self):
        for texts in PAIRS:
            one, other = [read_reader(text) for text in texts]
            for bound in (0, 2, 6, 12):
                self.check(one, other, bound)

    def test_greater_bounds_and_no_bound(self):
        rng = random.Random(246)
        unlike = 0
        for _ in range(250):
            one, other = skipping_pair(rng) if rng.random() < 0.5 else random_pair(rng)
            rows = [parted_within(one, other, bound) for bound in range(13)]
            rows.append(parted(one, other))
            lengths = [len(row) if row is not None else HUGE for row in rows]
            self.assertEqual(lengths, sorted(lengths, reverse=True))
            unlike += len(set(lengths)) > 1
            if lengths[-1] < HUGE:
                # From the greatest cell of a shortest row on, the bound makes no difference.
                self.assertEqual(set(lengths[min(13, max(rows[-1])):]), {lengths[-1]})
        self.assertGreater(unlike, 50)

    def test_the_examples(self):
        self.assertEqual([parted_within(BLOCK, COUNTED, 2), parted_within(BLOCK, COUNTED, 0)], [(1,), None])

    def test_a_cell_that_is_just_the_bound_or_just_beyond(self):
        for value in range(6):
            one = Reader([("a", ("case", ((value, "c"),), "b")), ("b", ("refuse",)), ("c", ("cut",))])
            other = reader_of("a: jump 2 b", "b: cut")
            for bound in range(13):
                self.assertEqual(parted_within(one, other, bound), (value,) if bound >= value else None)
        for number in range(6):
            one = reader_of("a: take b", f"b: upto {number} no else c", "c: cut", "no: refuse")
            for bound in range(13):
                row = self.check(one, other, bound)
                self.assertEqual(row is None, bound <= number)
        for constant in (-3, -2, -1):
            one = reader_of("a: take b", f"b: skip {constant} c", "c: cut")
            for bound in range(13):
                self.assertEqual(parted_within(one, other, bound), (-constant,) if bound >= -constant else None)

    def test_what_is_kept_and_skipped_is_followed_exactly(self):
        # By multiples of 4 above 5 alone: both cut behind 13 cells with an 8, but not with a 12.
        one = reader_of("a: take b", "b: upto 5 no else c", "c: skip 4 d", "d: cut", "no: refuse")
        other = reader_of("a: rest 4 b", "b: upto 0 c else no", "c: jump 4 d", "d: jump 4 e", "e: jump 4 f", "f: cut",
                          "no: refuse")
        for bound in range(12):
            self.assertIsNone(self.check(one, other, bound))
        row = self.check(one, other, 12)
        self.assertEqual([len(row), row[0]], [13, 12])
        self.check(one, other.replaced("e", ("jump", 3, "f")), 12)
        self.assertEqual(len(self.check(one, other.replaced("e", ("jump", 3, "f")), 11)), 12)

    def test_the_longest_skip(self):
        # One reader wants a 5 behind its skip; the other one lets a 5 pass as each seventh cell alone, from the
        # fourth one on. With a number above 5, the skip can only be one of 12 and 4 cells.
        one = reader_of("a: take b", "b: upto 5 no else c", "c: skip 4 d", "d: case 5 e else no", "e: cut", "no: refuse")
        ring = [f"{name}: case 5 no else {follower}" for name, follower in zip("abcefg", "bcdfga")]
        other = reader_of(*ring, "d: jump 1 e", "no: refuse")
        for bound in (0, 4, 5, 6, 11):
            self.assertIsNone(self.check(one, other, bound))
        row = self.check(one, other, 12)
        self.assertEqual([len(row), row[0], row[-1]], [18, 12, 5])

    def test_rows_that_both_cut_are_left_out(self):
        # They part in each second message only.
        one = reader_of("a: jump 2 b", "b: cut")
        other = reader_of("a: jump 2 b", "b: case 0 c else d", "c: cut", "d: jump 1 c")
        for bound in (0, 1, 12):
            self.assertEqual(len(self.check(one, other, bound)), 2)

    def test_alike_readers_and_refusals(self):
        refuses = reader_of("a: jump 1 no", "no: refuse")
        for reader in (BLOCK, COUNTED, Reader(EIGHT), refuses):
            for bound in (0, 3, 12):
                self.assertIsNone(parted_within(reader, reader, bound))
                self.assertIsNone(self.check(reader, refuses, bound))
        cut = reader_of("a: jump 2 b", "b: cut")
        self.assertIsNone(self.check(cut, reader_of("a: jump 2 b", "b: refuse"), 12))
        self.assertEqual(len(self.check(cut, reader_of("a: jump 3 b", "b: refuse"), 12)), 2)

    def test_bounds(self):
        for bound in (-1, -2, -HUGE):
            self.assert_raises(BadBound, "bound", bound, parted_within, BLOCK, COUNTED, bound)
        for bound in (13, 14, HUGE):
            self.assert_raises(TooGreat, None, None, parted_within, BLOCK, COUNTED, bound)
        self.assertEqual(parted_within(BLOCK, COUNTED, 12), (1,))
        self.assertIsNone(parted_within(BLOCK, BLOCK, 0))

    def test_readers_stay(self):
        texts = [written(BLOCK), written(COUNTED)]
        parted_within(BLOCK, COUNTED, 5)
        self.assertEqual([written(BLOCK), written(COUNTED)], texts)


if __name__ == "__main__":
    unittest.main()
