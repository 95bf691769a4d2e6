import itertools
import unittest

from helper import Case
from splitalike.errors import BadCell, BadCount, NoCell, TooGreat
from splitalike.readers import Reader
from splitalike.rows import Row

HUGE = 10 ** 30
SMALL_ROWS = [list(cells) for size in range(5) for cells in itertools.product((0, 1, 2), repeat=size)]


def zigzag(many):
    """So many cells, each unlike its neighbours."""
    return [place % 2 for place in range(many)]


def runs_of(cells):
    return tuple((len(list(group)), cell) for cell, group in itertools.groupby(cells))


class Making(Case):
    def test_runs_of_cells(self):
        self.assertEqual(Row([2, 7, 7, 2]).runs, ((1, 2), (2, 7), (1, 2)))
        self.assertEqual(Row((0, 0, 0)).runs, ((3, 0),))
        for cells in SMALL_ROWS:
            self.assertEqual(Row(cells).runs, runs_of(cells))

    def test_the_empty_row(self):
        for row in (Row(), Row([]), Row(()), Row.of_runs([]), Row.of_runs(()), Row.of_runs([(0, 4)])):
            self.assertEqual([row.runs, row.size, row.cells()], [(), 0, []])

    def test_runs_are_joined_and_empty_ones_left_out(self):
        runs = [(0, 9), (2, 1), (0, 5), (3, 1), [1, 0], (0, 1), (HUGE, 0), (0, 3)]
        self.assertEqual(Row.of_runs(runs).runs, ((5, 1), (HUGE + 1, 0)))

    def test_runs_are_tuples(self):
        runs = Row.of_runs([[2, 1], [1, 3]]).runs
        self.assertIs(type(runs), tuple)
        self.assertTrue(all(type(pair) is tuple for pair in runs))

    def test_huge_cells_and_counts(self):
        row = Row.of_runs([(HUGE, HUGE), (10 ** 5000, 10 ** 6000)])
        self.assertEqual(row.runs, ((HUGE, HUGE), (10 ** 5000, 10 ** 6000)))
        self.assertEqual(row.size, HUGE + 10 ** 5000)
        self.assertEqual(Row([HUGE, HUGE]).runs, ((2, HUGE),))

    def test_what_is_given_stays_and_later_changes_have_no_effect(self):
        cells = [1, 1, 2]
        row = Row(cells)
        self.assertEqual(cells, [1, 1, 2])
        cells[0] = 5
        cells.append(7)
        self.assertEqual(row.runs, ((2, 1), (1, 2)))
        runs = [[2, 1], [0, 3], [4, 1]]
        row = Row.of_runs(runs)
        self.assertEqual(runs, [[2, 1], [0, 3], [4, 1]])
        runs[0][0] = 9
        runs.append([1, 1])
        self.assertEqual(row.runs, ((6, 1),))

    def test_bad_cells(self):
        self.assert_raises(BadCell, "cell", -1, Row, [0, 3, -1, -2])
        self.assert_raises(BadCell, "cell", -HUGE, Row, (-HUGE,))
        self.assertEqual(Row([0]).runs, ((1, 0),))

    def test_bad_runs_pair_by_pair(self):
        self.assert_raises(BadCount, "count", -1, Row.of_runs, [(1, 1), (-1, -2)])
        self.assert_raises(BadCell, "cell", -2, Row.of_runs, [(1, 1), (1, -2), (-1, 1)])
        self.assert_raises(BadCell, "cell", -2, Row.of_runs, [(0, -2)])
        self.assert_raises(BadCount, "count", -HUGE, Row.of_runs, [(-HUGE, 0), (1, -1)])

    def test_a_thousand_runs(self):
        self.assertEqual(len(Row(zigzag(1000)).runs), 1000)
        self.assert_raises(TooGreat, None, None, Row, zigzag(1001))
        self.assertEqual(len(Row.of_runs([(HUGE, cell) for cell in zigzag(1000)]).runs), 1000)
        self.assert_raises(TooGreat, None, None, Row.of_runs, [(2, cell) for cell in zigzag(1001)])

    def test_only_runs_that_are_left_count(self):
        self.assertEqual(Row([4] * 5000).runs, ((5000, 4),))
        self.assertEqual(Row.of_runs([(1, 4)] * 5000).runs, ((5000, 4),))
        self.assertEqual(Row.of_runs([(1, 4), (0, 3)] * 3000).runs, ((3000, 4),))

    def test_bad_cells_and_counts_come_before_too_great(self):
        self.assert_raises(BadCell, "cell", -1, Row, [*zigzag(1500), -1])
        runs = [(1, cell) for cell in zigzag(1500)]
        self.assert_raises(BadCell, "cell", -1, Row.of_runs, [*runs, (1, -1)])
        self.assert_raises(BadCount, "count", -1, Row.of_runs, [*runs, (-1, 1)])


class Asking(Case):
    def test_size(self):
        for cells in SMALL_ROWS:
            self.assertEqual(Row(cells).size, len(cells))
        self.assertEqual(Row.of_runs([(HUGE, 1), (3, 0), (HUGE, 1)]).size, 2 * HUGE + 3)

    def test_cell_at(self):
        for cells in SMALL_ROWS:
            row = Row(cells)
            self.assertEqual([row.cell_at(place) for place in range(len(cells))], cells)
            for place in (-HUGE, -1, len(cells), len(cells) + 1, HUGE):
                self.assert_raises(NoCell, "place", place, row.cell_at, place)

    def test_cell_at_far_places(self):
        row = Row.of_runs([(HUGE, 5), (1, 0), (HUGE, 6)])
        places = [0, HUGE - 1, HUGE, HUGE + 1, 2 * HUGE]
        self.assertEqual([row.cell_at(place) for place in places], [5, 5, 0, 6, 6])
        self.assert_raises(NoCell, "place", 2 * HUGE + 1, row.cell_at, 2 * HUGE + 1)

    def test_part(self):
        for cells in SMALL_ROWS:
            row = Row(cells)
            for start, stop in itertools.product(range(len(cells) + 1), repeat=2):
                self.assertEqual(row.part(start, stop).runs, runs_of(cells[start:stop]))

    def test_part_of_far_places(self):
        row = Row.of_runs([(HUGE, 5), (1, 0), (HUGE, 6)])
        self.assertEqual(row.part(0, row.size).runs, row.runs)
        self.assertEqual(row.part(HUGE - 2, HUGE + 4).runs, ((2, 5), (1, 0), (3, 6)))
        self.assertEqual(row.part(7, HUGE).runs, ((HUGE - 7, 5),))
        self.assertEqual(row.part(row.size, row.size).runs, ())
        self.assertEqual(row.part(row.size, 0).runs, ())

    def test_part_beyond_the_ends(self):
        row = Row([1, 2, 3])
        for place in (-HUGE, -1, 4, HUGE):
            self.assert_raises(NoCell, "place", place, row.part, place, 0)
            self.assert_raises(NoCell, "place", place, row.part, 0, place)
            self.assert_raises(NoCell, "place", place, row.part, 3, place)
        self.assert_raises(NoCell, "place", 4, row.part, 4, -1)
        self.assert_raises(NoCell, "place", -1, row.part, -1, 5)
        self.assert_raises(NoCell, "place", 1, Row().part, 0, 1)
        self.assertEqual(Row().part(0, 0).runs, ())

    def test_cells(self):
        for cells in SMALL_ROWS:
            self.assertEqual(Row(cells).cells(), cells)
        self.assertEqual(Row.of_runs([(2, HUGE), (1, 0)]).cells(), [HUGE, HUGE, 0])

    def test_a_thousand_cells(self):
        self.assertEqual(Row([3] * 1000).cells(), [3] * 1000)
        self.assertEqual(Row(zigzag(1000)).cells(), zigzag(1000))
        self.assert_raises(TooGreat, None, None, Row([3] * 1001).cells)
        self.assert_raises(TooGreat, None, None, Row.of_runs([(500, 1), (501, 2)]).cells)
        self.assert_raises(TooGreat, None, None, Row.of_runs([(10 ** 5000, 1)]).cells)

    def test_lists_are_new_ones(self):
        row = Row([1, 2])
        row.cells().append(3)
        self.assertEqual([row.cells(), row.runs], [[1, 2], ((1, 1), (1, 2))])

    def test_cell_in_row(self):
        for cells in SMALL_ROWS:
            for cell in (-1, 0, 1, 2, 3):
                self.assertIs(cell in Row(cells), cell in cells)
        row = Row.of_runs([(HUGE, 5), (0, 4), (1, HUGE)])
        self.assertEqual([5 in row, 4 in row, HUGE in row, HUGE + 1 in row, -5 in row], [True, False, True, False, False])
        self.assertTrue(4 not in row)


class Operators(Case):
    def test_one_row_behind_another(self):
        for one, other in itertools.product(SMALL_ROWS[:40], repeat=2):
            self.assertEqual((Row(one) + Row(other)).runs, runs_of(one + other))
        self.assertEqual((Row.of_runs([(HUGE, 1)]) + Row.of_runs([(HUGE, 1), (1, 0)])).runs, ((2 * HUGE, 1), (1, 0)))

    def test_rows_that_are_added_stay(self):
        one = Row([1, 2])
        other = Row([2, 3])
        row = one + other
        self.assertEqual([one.runs, other.runs], [((1, 1), (1, 2)), ((1, 2), (1, 3))])
        row += one
        self.assertEqual(row.cells(), [1, 2, 2, 3, 1, 2])
        self.assertEqual(one.cells(), [1, 2])

    def test_sums_of_a_thousand_runs(self):
        half = Row(zigzag(500))
        self.assertEqual(len((half + half).runs), 1000)
        self.assert_raises(TooGreat, None, None, lambda: half + half + Row([0]))
        self.assertEqual(len((half + half + Row([1])).runs), 1000)
        self.assertEqual(len((Row(zigzag(501)) + Row(zigzag(500))).runs), 1000)

    def test_only_rows_are_added(self):
        self.assertRaises(TypeError, lambda: Row([1]) + [2])
        self.assertRaises(TypeError, lambda: [2] + Row([1]))

    def test_times(self):
        for cells in SMALL_ROWS:
            for times in range(5):
                self.assertEqual((Row(cells) * times).runs, runs_of(cells * times))

    def test_huge_times(self):
        self.assertEqual((Row([5, 5]) * HUGE).runs, ((2 * HUGE, 5),))
        self.assertEqual((Row.of_runs([(HUGE, 5)]) * HUGE).runs, ((HUGE * HUGE, 5),))
        self.assertEqual((Row() * HUGE).runs, ())
        self.assertEqual((Row.of_runs([(HUGE, 5), (1, 2)]) * 1).runs, ((HUGE, 5), (1, 2)))
        self.assertEqual((Row.of_runs([(HUGE, 5), (1, 2), (3, 5)]) * 2).runs,
                         ((HUGE, 5), (1, 2), (HUGE + 3, 5), (1, 2), (3, 5)))

    def test_times_below_0(self):
        for row in (Row(), Row([1]), Row([1, 2]), Row(zigzag(1000))):
            for times in (-1, -HUGE):
                self.assert_raises(BadCount, "count", times, lambda: row * times)

    def test_products_of_a_thousand_runs(self):
        self.assertEqual(len((Row([1, 2]) * 500).runs), 1000)
        self.assert_raises(TooGreat, None, None, lambda: Row([1, 2]) * 501)
        # The end and the beginning are alike: 2 * times + 1 runs are left.
        self.assertEqual(len((Row([1, 2, 1]) * 499).runs), 999)
        self.assert_raises(TooGreat, None, None, lambda: Row([1, 2, 1]) * 500)
        self.assertEqual(len((Row(zigzag(1000)) * 1).runs), 1000)
        self.assert_raises(TooGreat, None, None, lambda: Row(zigzag(1000)) * 2)
        self.assert_raises(TooGreat, None, None, lambda: Row([1, 2]) * HUGE)
        self.assert_raises(TooGreat, None, None, lambda: Row([1, 2, 1]) * HUGE)
        for many, times in itertools.product((333, 334, 335, 499, 500, 501), (2, 3)):
            row = Row(zigzag(many))
            left = len(runs_of(zigzag(many) * times))
            if left <= 1000:
                self.assertEqual(len((row * times).runs), left)
            else:
                self.assert_raises(TooGreat, None, None, lambda: row * times)

    def test_equal_with_the_same_cells(self):
        for one, other in itertools.product(SMALL_ROWS[:40], repeat=2):
            self.assertIs(Row(one) == Row(other), one == other)
            self.assertIs(Row(one) != Row(other), one != other)
        self.assertTrue(Row([1, 1, 2]) == Row.of_runs([(1, 1), (0, 2), (1, 1), (1, 2)]))
        self.assertTrue(Row() == Row.of_runs([(0, 2)]))
        self.assertFalse(Row.of_runs([(HUGE, 1)]) == Row.of_runs([(HUGE + 1, 1)]))

    def test_unequal_to_objects_of_other_classes(self):
        for other in ([1], (1,), ((1, 1),), None, 1, Reader([("a", ("take", "a"))])):
            self.assertIs(Row([1]) == other, False)
            self.assertIs(Row([1]) != other, True)


if __name__ == "__main__":
    unittest.main()
