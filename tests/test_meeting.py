import itertools
import random
import unittest

from chosen import PAIRS
from helper import Case
from plain import (guarded_pairs, lines_over, pairs_cut_in_the_last_stretch, random_pair, random_reader, reader_of,
                   searched, skipping_pair)
from splitalike.errors import NoLine
from splitalike.meeting import meeting, meeting_beyond, meets, meets_beyond
from splitalike.texts import read_reader

BLOCK = read_reader("head: take body\nbody: skip 0 end\nend: cut")
COUNTED = BLOCK.replaced("body", ("skip", -1, "end"))
ASKED = {False: ("meet", meets, meeting), True: ("meet beyond", meets_beyond, meeting_beyond)}


class Meetings(Case):
    def check(self, one, other, most, longest, exact=False, few=False):
        """Compares the pairs that meet, and their rows, with runs and with a search over small rows."""
        for beyond, (asked, pairs_of, row_of) in ASKED.items():
            found = searched(one, other, asked, most, longest)
            pairs = pairs_of(one, other)
            in_order = [pair for pair in itertools.product(one.names(), other.names()) if pair in pairs]
            self.assertEqual(pairs, in_order)
            self.assertLessEqual(set(found), set(pairs))
            if exact:
                self.assertEqual(set(found), set(pairs))
            for pair in itertools.product(one.names(), other.names()):
                if pair not in pairs and few:
                    continue
                row = row_of(one, other, *pair)
                self.assertEqual(row is not None, pair in pairs)
                if row is not None:
                    self.check_row(one, other, pair, row, beyond)
                    if pair in found:
                        self.assertLessEqual(len(row), found[pair])
                    if len(row) <= longest and max(row) <= most:
                        self.assertEqual(len(row), found[pair])

    def check_row(self, one, other, pair, row, beyond):
        self.assertIsInstance(row, tuple)
        self.assertTrue(all(type(cell) is int and cell >= 0 for cell in row))
        self.assertEqual(lines_over(one, other, row, beyond), pair)

    def test_random_readers(self):
        rng = random.Random(21)
        for _ in range(400):
            self.check(*random_pair(rng), 6, 6)

    def test_random_readers_on_greater_cells(self):
        rng = random.Random(22)
        for _ in range(60):
            self.check(*random_pair(rng), 20, 4)

    def test_readers_of_eight_lines(self):
        rng = random.Random(23)
        for _ in range(40):
            self.check(random_reader(rng, 8), random_reader(rng, 8), 6, 6)

    def test_readers_whose_rows_are_all_searched(self):
        # Without a take, there are finitely many stands, with small cells.
        weights = {"case": 3, "rest": 1, "cap": 1, "jump": 2, "set": 1, "upto": 1, "skip": 1}
        rng = random.Random(24)
        for _ in range(150):
            self.check(random_reader(rng, None, weights), random_reader(rng, None, weights), 12, 40, True)

    def test_random_readers_that_skip_by_one_number(self):
        rng = random.Random(25)
        for _ in range(200):
            self.check(*skipping_pair(rng), 16, 22, few=True)

    def test_great_numbers_alone(self):
        for number, (one, other) in enumerate(guarded_pairs()):
            if number % 3 == 0:
                self.check(one, other, 13, 14, few=True)

    def test_rows_that_end_within_the_last_stretch(self):
        for number, (one, other) in enumerate(pairs_cut_in_the_last_stretch()):
            if number % 4 == 0:
                self.check(one, other, 14, 16, few=True)

    def test_chosen_pairs(self):
        for texts in PAIRS:
            self.check(*[read_reader(text) for text in texts], 20, 30)

    def test_the_examples(self):
        self.assertEqual(meets(BLOCK, COUNTED), [("head", "head"), ("body", "body")])
        beyond = [("head", "head"), ("head", "body"), ("body", "head"), ("body", "body")]
        self.assertEqual(meets_beyond(BLOCK, COUNTED), beyond)
        row = meeting_beyond(BLOCK, COUNTED, "body", "head")
        self.assertEqual([len(row), row[0]], [2, 1])
        self.assertIsNone(meeting(BLOCK, COUNTED, "body", "head"))
        self.assertIsNone(meeting(BLOCK, COUNTED, "head", "end"))

    def test_the_first_cell(self):
        self.assertEqual(len(meeting(BLOCK, COUNTED, "head", "head")), 1)
        self.assertEqual(len(meeting_beyond(BLOCK, COUNTED, "head", "head")), 1)

    def test_parting_and_refusing_just_in_front_of_the_cell(self):
        jump = reader_of("a: jump 1 b", "b: jump 1 c", "c: cut")
        cut = reader_of("a: jump 1 b", "b: cut")
        refuses = reader_of("a: jump 1 b", "b: refuse")
        self.assertEqual(meets(jump, cut), [("a", "a")])
        self.assertEqual(meets_beyond(jump, cut), [("a", "a"), ("b", "a")])
        for pair in ((jump, refuses), (cut, refuses), (refuses, refuses)):
            self.assertEqual([meets(*pair), meets_beyond(*pair)], [[("a", "a")], [("a", "a")]])

    def test_a_cut_of_both(self):
        reader = reader_of("a: case 0 b else c", "b: cut", "c: jump 1 b")
        self.assertEqual(meets(reader, reader), [("a", "a"), ("c", "c")])
        self.assertEqual(meets_beyond(reader, reader), [("a", "a"), ("c", "c")])

    def test_a_skip_of_a_cell_that_the_other_one_looks_at(self):
        other = reader_of("a: take b", "b: case 1 c else c", "c: skip 0 d", "d: cut")
        self.assertIn(("body", "b"), meets(BLOCK, other))
        row = meeting(BLOCK, other, "body", "b")
        self.assertEqual(len(row), 2)
        self.assertGreater(row[0], 0)
        self.check(BLOCK, other, 7, 7)

    def test_lines_that_go_over_no_cell(self):
        reader = reader_of("a: take b", "b: upto 2 c else e", "c: set 1 d", "d: cut", "e: refuse")
        self.assertEqual(meets(reader, reader), [("a", "a")])
        for name in "bcde":
            self.assertIsNone(meeting(reader, reader, name, "a"))
            self.assertIsNone(meeting_beyond(reader, reader, "a", name))

    def test_one_reader_late_with_the_same_number(self):
        early = reader_of("a: take b", "b: skip 0 c", "c: case 5 d else no", "d: case 1 e else f", "e: cut", "f: jump 2 d",
                          "no: refuse")
        for more in (-3, -1, 0, 2, 4):
            late = reader_of("a: take b", "b: jump 2 c", "c: case 0 d 5 d else b", f"d: skip {more} e", "e: jump 1 f",
                             "f: cut")
            self.check(early, late, 9, 9)
            self.check(late, early, 9, 9)

    def test_far_rows(self):
        early = reader_of("size: take body", "body: skip 0 a", "a: case 0 no else b", "b: case 0 no else c",
                          "c: jump 1 a", "no: refuse")
        late = reader_of("size: take p", "p: jump 3 q", "q: case 0 body else p", "body: skip 1 w", "w: case 0 x else no",
                         "x: take p", "no: refuse")
        self.check(early, late, 12, 16)
        # The last 0 in front of it is one that the early reader jumps over.
        self.assertGreater(len(meeting(early, late, "a", "x")), 8)
        self.assertIsNone(meeting(early, late, "c", "x"))

    def test_names_of_lines_mean_nothing(self):
        other = reader_of("shared: take fixed", "fixed: skip 0 goal", "goal: cut")
        self.assertEqual(meets(BLOCK, other), [("head", "shared"), ("body", "fixed")])
        self.assertEqual(meets(other, BLOCK), [("shared", "head"), ("fixed", "body")])

    def test_names_that_no_line_has(self):
        for call in (meeting, meeting_beyond):
            self.assert_raises(NoLine, "name", "x", call, BLOCK, COUNTED, "x", "y")
            self.assert_raises(NoLine, "name", "x", call, BLOCK, COUNTED, "x", "head")
            self.assert_raises(NoLine, "name", "y", call, BLOCK, COUNTED, "end", "y")
            self.assert_raises(NoLine, "name", "", call, BLOCK, COUNTED, "", "body")
            other = reader_of("a: take b", "b: cut")
            self.assert_raises(NoLine, "name", "a", call, BLOCK, other, "a", "head")
            self.assert_raises(NoLine, "name", "head", call, BLOCK, other, "head", "head")


if __name__ == "__main__":
    unittest.main()
