import itertools
import random
import unittest

from helper import SMALL, Case
from plain import changed_reader, random_reader, reader_of, shown
from splitalike.errors import BadCell, TooGreat, TooMany
from splitalike.readers import Reader
from splitalike.rows import Row
from splitalike.telling import least_rows, told_apart
from splitalike.texts import read_reader, written

HUGE = 10 ** 30
BLOCK = read_reader("head: take body\nbody: skip 0 end\nend: cut")
COUNTED = BLOCK.replaced("body", ("skip", -1, "end"))
PIECES = read_reader("size: take test\ntest: upto 0 end else data\ndata: skip 0 size\nend: cut")
ROWS = [[0], [1, 5], [2, 7, 7]]
BOTH = (told_apart, least_rows)


def plain_pairs(readers, rows):
    """The pairs of readers that show unlike things on one of the rows, as a set."""
    return {(one, other) for one, other in itertools.combinations(range(len(readers)), 2)
            if any(shown(readers[one], row) != shown(readers[other], row) for row in rows)}


def plain_least(readers, rows):
    """The first least set, by a search over all sets of rows."""
    whole = plain_pairs(readers, rows)
    by_row = [plain_pairs(readers, [row]) for row in rows]
    sets = [chosen for many in range(len(rows) + 1) for chosen in itertools.combinations(range(len(rows)), many)
            if set().union(*[by_row[number] for number in chosen]) == whole]
    return min(sets, key=lambda chosen: (len(chosen), chosen))


def random_readers(rng, many):
    readers = [random_reader(rng)]
    while len(readers) < many:
        readers.append(random_reader(rng) if rng.random() < 0.4 else changed_reader(rng, rng.choice(readers)))
    return readers[:many]


def of_value(value):
    """A reader that cuts behind each cell, but refuses behind this one."""
    return Reader([("a", ("case", ((value, "no"),), "end")), ("end", ("cut",)), ("no", ("refuse",))])


class Told(Case):
    def test_random_readers(self):
        rng = random.Random(231)
        lengths = set()
        for number in range(500):
            readers = random_readers(rng, number % 9)
            rows = [[rng.randint(0, rng.choice((1, 3, 7))) for _ in range(rng.randint(0, 12))]
                    for _ in range(rng.randint(0, 12))]
            pairs = sorted(plain_pairs(readers, rows))
            least = plain_least(readers, rows)
            self.assertEqual(told_apart(readers, rows), pairs)
            self.assertEqual(least_rows(readers, rows), least)
            self.assertEqual(told_apart(tuple(readers), tuple(tuple(row) for row in rows)), pairs)
            self.assertEqual(least_rows(tuple(readers), tuple(Row(row) for row in rows)), least)
            lengths.add(len(least))
        self.assertEqual(lengths, {0, 1, 2})

    def test_sets_of_several_rows(self):
        # Each row tells few pairs apart, so that many rows are needed, in many ways.
        rng = random.Random(232)
        lengths = {}
        for _ in range(200):
            readers = [of_value(rng.randint(0, 5)) for _ in range(rng.randint(2, 8))]
            rows = [[rng.choice((0, 1, 2, 3, 4, 5, 6)) for _ in range(rng.choice((0, 1, 1, 2)))]
                    for _ in range(rng.randint(1, 12))]
            least = plain_least(readers, rows)
            self.assertEqual(least_rows(readers, rows), least)
            self.assertEqual(told_apart(readers, rows), sorted(plain_pairs(readers, rows)))
            lengths[len(least)] = lengths.get(len(least), 0) + 1
        self.assertGreater(max(lengths), 3)

    def test_the_example(self):
        readers = [BLOCK, COUNTED, PIECES]
        self.assertEqual([told_apart(readers, ROWS), least_rows(readers, ROWS)], [[(0, 1), (0, 2), (1, 2)], (1,)])

    def test_places_of_cuts_and_of_refusals(self):
        cut = reader_of("a: jump 2 b", "b: cut")
        refuses = reader_of("a: jump 2 b", "b: refuse")
        never = reader_of("a: jump 2 a")
        later = reader_of("a: jump 3 b", "b: refuse")
        readers = [cut, refuses, never, later]
        self.assertEqual(told_apart(readers, [[7]]), [])
        self.assertEqual(told_apart(readers, [[7, 7]]), [(0, 1), (0, 2), (0, 3), (1, 2), (1, 3)])
        self.assertEqual(told_apart(readers, [[7, 7, 7]]), list(itertools.combinations(range(4), 2)))
        self.assertEqual([least_rows(readers, [[7], [7, 7]]), least_rows(readers, [[7], [7, 7], [7, 7, 7]])],
                         [(1,), (2,)])

    def test_cuts_before_a_refusal(self):
        # Both refuse at place 2, but one of them has cut at place 1.
        one = reader_of("a: jump 1 b", "b: set 0 c", "c: jump 1 d", "d: refuse")
        other = reader_of("a: case 0 b else no", "b: cut", "no: refuse")
        self.assertEqual([shown(one, (0, 1)), shown(other, (0, 1))], [((), 2), ((1,), 2)])
        self.assertEqual(told_apart([one, other], [[0, 1]]), [(0, 1)])

    def test_where_readers_stand_is_not_shown(self):
        one = reader_of("a: take b", "b: jump 2 c", "c: cut")
        other = reader_of("z: jump 3 y", "y: cut")
        self.assertEqual(told_apart([one, other], [[4], [4, 4], [4, 4, 4], [1] * 1000]), [])

    def test_nothing_is_told(self):
        for readers, rows in (([], []), ((), ()), ([BLOCK], []), ([BLOCK, COUNTED], []), ([], ROWS), ([BLOCK], ROWS),
                              ([BLOCK, BLOCK], ROWS), ([BLOCK, COUNTED], [[]]), ([BLOCK, COUNTED], [[], Row(), ()])):
            self.assertEqual(told_apart(readers, rows), [])
            self.assertEqual(least_rows(readers, rows), ())

    def test_the_first_of_several_least_sets(self):
        readers = [of_value(0), of_value(1), of_value(2)]
        # One of the rows alone tells one reader from the two others.
        self.assertEqual(least_rows(readers, [[3], [2], [1], [0]]), (1, 2))
        self.assertEqual(least_rows(readers, [[0], [0], [3], [1], [2]]), (0, 3))
        # One row that tells all comes before two that do.
        self.assertEqual(least_rows(readers, [[0], [1], [3, 0], [4, 0, 1], [0, 1]]), (3,))
        self.assertEqual(least_rows(readers, [[0], [1], [1, 0], [2, 0, 1]]), (2,))
        self.assertEqual(least_rows([BLOCK, COUNTED, PIECES], [[0], [2, 7, 7], [1, 5], [1]]), (1,))
        self.assertEqual(least_rows([BLOCK, COUNTED], [[], [0], [1], [0]]), (1,))

    def test_12_and_13_rows(self):
        readers = [of_value(value) for value in range(6)]
        rows = [[value % 6] for value in range(12)]
        for call in BOTH:
            self.assertTrue(call(readers, rows))
            for many in (13, 14, 40):
                self.assert_raises(TooMany, "count", many, call, readers, (rows * 4)[:many])
                self.assert_raises(TooMany, "count", many, call, [], [[]] * many)
        self.assertEqual(least_rows(readers, rows), (0, 1, 2, 3, 4))

    def test_all_rows_are_needed(self):
        # Each reader cuts at one place alone, behind a row that no other one is told apart by.
        readers = [reader_of("a: jump 1 a")]
        for value in range(6):
            readers.append(Reader([("a", ("case", ((value, "b"),), "c")), ("b", ("cut",)), ("c", ("jump", 1, "c"))]))
        rows = [[6] * size for size in range(6)] + [[value] for value in range(6)]
        self.assertEqual(least_rows(readers, rows), (6, 7, 8, 9, 10, 11))
        self.assertEqual(told_apart(readers, rows), list(itertools.combinations(range(7), 2)))

    def test_8_and_9_readers(self):
        readers = [of_value(value) for value in range(6)] + [BLOCK, COUNTED]
        rows = [[value] for value in range(6)] + [[1, 1, 2]]
        pairs = sorted(plain_pairs(readers, rows))
        self.assertEqual(told_apart(readers, rows), pairs)
        self.assertEqual(least_rows(readers, rows), plain_least(readers, rows))
        for call in BOTH:
            self.assert_raises(TooMany, "count", 9, call, [*readers, BLOCK], rows)
            self.assert_raises(TooMany, "count", 9, call, [BLOCK] * 9, [])
            self.assert_raises(TooMany, "count", 30, call, [BLOCK] * 30, rows * 2)

    def test_rows_of_1000_and_1001_cells(self):
        pair = [BLOCK, COUNTED]
        for rows in ([[0] * 1000], [[], Row([0]) * 1000], [[0, 1] * 500]):
            self.assertEqual(told_apart(pair, rows), [(0, 1)])
            self.assertEqual(least_rows(pair, rows), (len(rows) - 1,))
        for call in BOTH:
            for row in ([0] * 1001, Row([0]) * 1001, Row([0]) * HUGE, [0, 1] * 500 + [0], [0, 1] * 501):
                self.assert_raises(TooGreat, None, None, call, pair, [row])
                self.assert_raises(TooGreat, None, None, call, pair, [[0], [1], row, [2]])

    def test_unlike_far_behind(self):
        far = [[0] * 998 + [1, 1]]
        other = reader_of("a: case 1 b else c", "b: jump 1 c", "c: cut")
        self.assertEqual(told_apart([BLOCK, other, Reader(SMALL)], far), [(0, 2), (1, 2)])
        self.assertEqual(told_apart([BLOCK, other.replaced("b", ("jump", 2, "c"))], far), [(0, 1)])
        self.assertEqual(told_apart([BLOCK, other.replaced("b", ("jump", 2, "c"))], [far[0][:-2]]), [])

    def test_cells_below_0(self):
        for call in BOTH:
            for rows in ([[-1]], [[0], (2, -1, -2)], [[0, -1], [-2]], [[0, 1] * 501 + [-1]]):
                self.assert_raises(BadCell, "cell", -1, call, [BLOCK, COUNTED], rows)

    def test_errors_in_their_order(self):
        many_runs, many_cells, nine = [0, 1] * 501, [0] * 1001, [BLOCK] * 9
        for call in BOTH:
            # One row after the other; what all rows have to be comes before their sizes.
            self.assert_raises(TooGreat, None, None, call, nine, [many_runs, [-1]])
            self.assert_raises(BadCell, "cell", -1, call, nine, [[-1], many_runs])
            self.assert_raises(BadCell, "cell", -1, call, nine, [many_cells, [-1]])
            self.assert_raises(BadCell, "cell", -1, call, nine, [*[[0]] * 13, [-1]])
            self.assert_raises(TooGreat, None, None, call, nine, [*[[0]] * 13, many_cells])
            self.assert_raises(TooMany, "count", 9, call, nine, [[0]] * 13)
            self.assert_raises(TooMany, "count", 13, call, nine[:8], [[0]] * 13)

    def test_a_new_list_each_time_and_what_is_handed_in_stays(self):
        readers, rows = [BLOCK, COUNTED], [[0], [1, 5]]
        texts = [written(reader) for reader in readers]
        told_apart(readers, rows).clear()
        self.assertEqual(told_apart(readers, rows), [(0, 1)])
        self.assertEqual(least_rows(readers, rows), (0,))
        self.assertEqual([rows, len(readers)], [[[0], [1, 5]], 2])
        self.assertEqual([written(reader) for reader in readers], texts)


if __name__ == "__main__":
    unittest.main()
