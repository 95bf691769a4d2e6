import itertools
import random
import unittest

from helper import EIGHT, SMALL, Case
from plain import changed_reader, early_of, late_of, random_reader, reader_of, searched, skipping_pair
from splitalike.errors import TooMany
from splitalike.families import families
from splitalike.readers import Reader
from splitalike.texts import read_reader, written

ANY_LENGTH = 10 ** 6
BLOCK = read_reader("head: take body\nbody: skip 0 end\nend: cut")
COUNTED = BLOCK.replaced("body", ("skip", -1, "end"))
PIECES = read_reader("size: take test\ntest: upto 0 end else data\ndata: skip 0 size\nend: cut")
REFUSES = reader_of("a: jump 1 no", "no: refuse")


def plain_families(readers, most):
    """All greatest families, by a search over all rows of small cells and over all sets of readers."""
    numbers = range(len(readers))
    alike = {(one, other) for one, other in itertools.combinations(numbers, 2)
             if "part" not in searched(readers[one], readers[other], "part", most, ANY_LENGTH)}
    sets = [chosen for many in range(1, len(readers) + 1) for chosen in itertools.combinations(numbers, many)
            if set(itertools.combinations(chosen, 2)) <= alike]
    return sorted(chosen for chosen in sets if not any(set(chosen) < set(greater) for greater in sets))


def random_readers(rng, many):
    """Readers of which many are alike."""
    readers = list(skipping_pair(rng)) if rng.random() < 0.3 else [random_reader(rng)]
    while len(readers) < many:
        readers.append(random_reader(rng) if rng.random() < 0.2 else changed_reader(rng, rng.choice(readers)))
    rng.shuffle(readers)
    return readers[:many]


class Families(Case):
    def test_random_readers(self):
        rng = random.Random(221)
        shapes = set()
        for number in range(300):
            readers = random_readers(rng, 1 + number % 8)
            expected = plain_families(readers, 16)
            self.assertEqual(families(readers), expected)
            self.assertEqual(families(tuple(readers)), expected)
            shapes.add(tuple(len(chosen) for chosen in expected))
        self.assertGreater(len(shapes), 30)

    def test_being_alike_is_not_handed_on(self):
        # The first three part on rows that the fourth one refuses.
        rng = random.Random(222)
        overlaps = 0
        for _ in range(60):
            readers = [changed_reader(rng, Reader(SMALL)) for _ in range(5)] + [REFUSES, Reader(SMALL)]
            rng.shuffle(readers)
            found = families(readers)
            self.assertEqual(found, plain_families(readers, 16))
            overlaps += sum(len(chosen) for chosen in found) > len(readers)
        self.assertGreater(overlaps, 30)

    def test_the_example(self):
        self.assertEqual(families([BLOCK, COUNTED, BLOCK]), [(0, 2), (1,)])

    def test_a_reader_in_several_families(self):
        self.assertEqual(families([BLOCK, REFUSES, COUNTED]), [(0, 1), (1, 2)])
        self.assertEqual(families([REFUSES, BLOCK, COUNTED, BLOCK]), [(0, 1, 3), (0, 2)])
        self.assertEqual(families([BLOCK, COUNTED, PIECES, REFUSES]), [(0, 3), (1, 3), (2, 3)])

    def test_the_order_of_the_tuples(self):
        # The greater family does not come first, and (0, 3) stands ahead of (1,).
        self.assertEqual(families([PIECES, BLOCK, COUNTED, BLOCK, BLOCK]), [(0,), (1, 3, 4), (2,)])
        self.assertEqual(families([BLOCK, COUNTED, COUNTED, BLOCK]), [(0, 3), (1, 2)])
        self.assertEqual(families([BLOCK, REFUSES, REFUSES, COUNTED]), [(0, 1, 2), (1, 2, 3)])

    def test_no_readers_and_one(self):
        for readers in ([], ()):
            self.assertEqual(families(readers), [])
        for reader in (BLOCK, REFUSES, Reader(EIGHT)):
            self.assertEqual(families([reader]), [(0,)])

    def test_a_reader_that_stands_twice(self):
        self.assertEqual(families([BLOCK] * 8), [tuple(range(8))])
        self.assertEqual(families([BLOCK, COUNTED] * 4), [(0, 2, 4, 6), (1, 3, 5, 7)])

    def test_8_and_9_readers(self):
        cuts = [reader_of(f"a: jump {many} b", "b: cut") for many in (1, 2, 3, 4)]
        cuts += [reader_of("a: jump 4 b", f"b: jump {many} c", "c: cut") for many in (1, 2, 3, 4)]
        self.assertEqual(families(cuts), [(number,) for number in range(8)])
        for readers in (cuts + [BLOCK], tuple(cuts + [cuts[0]]), [BLOCK] * 9):
            self.assert_raises(TooMany, "count", 9, families, readers)
        self.assert_raises(TooMany, "count", 100, families, [BLOCK] * 100)

    def test_readers_that_part_on_far_rows_alone(self):
        early = early_of(2, 0)
        self.assertEqual(families([early, late_of(1, 0, 0), late_of(1, 0, 1), early]), [(0, 1, 3), (2,)])
        # On rows of 91 and more cells, the first of them 44 and more.
        self.assertEqual(families([early_of(5, 1), late_of(4, 4, 0), early_of(5, 1)]), [(0, 2), (1,)])

    def test_a_new_list_each_time_and_what_is_handed_in_stays(self):
        readers = [BLOCK, COUNTED]
        texts = [written(reader) for reader in readers]
        families(readers).clear()
        self.assertEqual(families(readers), [(0,), (1,)])
        self.assertEqual([written(reader) for reader in readers], texts)


if __name__ == "__main__":
    unittest.main()
