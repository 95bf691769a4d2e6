import itertools
import random
import unittest

from helper import EIGHT, SMALL, Case
from plain import (PlainTurned, changed_reader, first_place, random_pair, random_reader, reader_of, rules_used,
                   searched, shown, skipping_pair)
from splitalike.errors import BadCell, NoRule, TooGreat, TooMany
from splitalike.hardening import least_sets, makes_safe, rules_of, shows_turned, used
from splitalike.readers import READING, Reader
from splitalike.rows import Row
from splitalike.runs import cuts, run
from splitalike.texts import read_reader, written

ANY_LENGTH = 10 ** 6
HUGE = 10 ** 30
BLOCK = read_reader("head: take body\nbody: skip 0 end\nend: cut")
COUNTED = BLOCK.replaced("body", ("skip", -1, "end"))
PIECES = read_reader("size: take test\ntest: upto 0 end else data\ndata: skip 0 size\nend: cut")
REFUSES = reader_of("a: jump 1 no", "no: refuse")
WAYS = reader_of("a: case 3 b 0 c else d", "b: jump 3 e", "c: cut", "d: refuse", "e: cut")
# Without a take, small cells are enough to tell whether readers are alike.
NO_TAKE = {"case": 3, "rest": 1, "cap": 1, "jump": 2, "set": 1, "upto": 1, "skip": 1, "cut": 1}


def plain_rules(reader):
    found = []
    for name, line in reader.lines:
        if line[0] in READING:
            found += [(name, number) for number in range(len(line[1]) + 1 if line[0] == "case" else 1)]
    return found


def all_sets(rules):
    return [chosen for many in range(len(rules) + 1) for chosen in itertools.combinations(rules, many)]


def parts(plain, other, most):
    return "part" in searched(plain, other, "part", most, ANY_LENGTH)


def with_rules(many):
    """A reader of case lines with so many rules, from 2 on."""
    lines = [("a", ("case", [(value, "end") for value in range(min(many, 7) - 1)], "b"))]
    lines.append(("b", ("case", [(value, "end") for value in range(many - 8)], "b") if many > 7 else ("set", 0, "end")))
    return Reader([*lines, ("end", ("cut",))])


def random_cells(rng, longest):
    great = rng.choice((2, 3, 6, 9))
    return [rng.randint(0, great) for _ in range(rng.randint(0, longest))]


def random_others(rng, reader, weights=None):
    others = []
    for _ in range(rng.randint(0, 3)):
        others.append(changed_reader(rng, reader, weights) if rng.random() < 0.7 else random_reader(rng, None, weights))
    return others


class Rules(Case):
    def test_random_readers(self):
        rng = random.Random(201)
        for _ in range(300):
            reader = random_reader(rng)
            self.assertEqual(rules_of(reader), plain_rules(reader))

    def test_each_word(self):
        self.assertEqual(rules_of(Reader(EIGHT)), [("head", 0), ("head", 1), ("head", 2), ("head", 3), ("low", 0),
                                                   ("keep", 0), ("jumping", 0)])
        self.assertEqual(rules_of(Reader(SMALL)), [("a", 0)])
        self.assertEqual(rules_of(BLOCK), [("head", 0)])
        self.assertEqual(rules_of(WAYS), [("a", 0), ("a", 1), ("a", 2), ("b", 0)])

    def test_a_case_line_without_ways_and_lines_that_are_never_come_to(self):
        reader = reader_of("a: case else b", "b: cut", "c: jump 4 c", "d: case 5 a 0 b else c", "e: refuse")
        self.assertEqual(rules_of(reader), [("a", 0), ("c", 0), ("d", 0), ("d", 1), ("d", 2)])

    def test_many_rules(self):
        ways = tuple((value, "a") for value in range(6))
        reader = Reader([(name, ("case", ways, "a")) for name in "abcdefgh"])
        self.assertEqual(rules_of(reader), [(name, number) for name in "abcdefgh" for number in range(7)])

    def test_a_new_list_each_time(self):
        rules_of(WAYS).clear()
        self.assertEqual(len(rules_of(WAYS)), 4)


class Used(Case):
    def test_random_rows(self):
        rng = random.Random(202)
        for _ in range(1500):
            reader = random_reader(rng)
            cells = random_cells(rng, 25)
            found = rules_used(reader, cells)
            for row in (cells, tuple(cells), Row(cells)):
                self.assertEqual(used(reader, row), [rule for rule in plain_rules(reader) if rule in found])

    def test_the_example(self):
        self.assertEqual(used(BLOCK, [2, 7, 7]), [("head", 0)])

    def test_the_empty_row(self):
        for row in ([], (), Row()):
            self.assertEqual(used(WAYS, row), [])

    def test_ways_in_order_and_each_once(self):
        self.assertEqual(used(WAYS, [0, 0, 3, 3, 3, 3, 0]), [("a", 0), ("a", 1), ("b", 0)])
        self.assertEqual(used(WAYS, [0]), [("a", 1)])
        self.assertEqual(used(WAYS, [1]), [("a", 2)])
        self.assertEqual(used(WAYS, [HUGE]), [("a", 2)])

    def test_nothing_behind_a_refusal(self):
        self.assertEqual(used(WAYS, [4, 0, 3, 3]), [("a", 2)])
        self.assertEqual(used(WAYS, [0, 4, 3, 3]), [("a", 1), ("a", 2)])

    def test_a_jump_with_its_first_cell(self):
        jumps = reader_of("a: jump 3 b", "b: jump 1 a")
        self.assertEqual([used(jumps, [5] * size) for size in (1, 2, 3, 4)],
                         [[("a", 0)], [("a", 0)], [("a", 0)], [("a", 0), ("b", 0)]])

    def test_a_skip_uses_none(self):
        reader = reader_of("a: take b", "b: skip 0 c", "c: cap 3 d", "d: cut")
        self.assertEqual(used(reader, [3, 1, 1, 1]), [("a", 0)])
        self.assertEqual(used(reader, [3, 1, 1, 1, 1]), [("a", 0), ("c", 0)])
        self.assertEqual(used(reader, [0, 1]), [("a", 0), ("c", 0)])

    def test_rows_of_1000_and_1001_cells(self):
        self.assertEqual(used(BLOCK, [0] * 1000), [("head", 0)])
        self.assertEqual(used(WAYS, [0, 3, 1, 1, 1] * 200), [("a", 0), ("a", 1), ("b", 0)])
        self.assertEqual(used(WAYS, [0] * 999 + [3]), [("a", 0), ("a", 1)])
        self.assertEqual(used(WAYS, Row([0]) * 999 + Row([3])), [("a", 0), ("a", 1)])
        for row in ([0] * 1001, Row([0]) * 1001, Row([0]) * HUGE, [0, 1] * 500 + [0]):
            self.assert_raises(TooGreat, None, None, used, BLOCK, row)
        for row in ([0, -1], (-1, -2), [0] * 1001 + [-1], [0, 1] * 501 + [-1]):
            self.assert_raises(BadCell, "cell", -1, used, BLOCK, row)

    def test_a_new_list_each_time(self):
        used(WAYS, [0]).clear()
        self.assertEqual(used(WAYS, [0]), [("a", 1)])


class Turned(Case):
    def test_random_readers(self):
        rng = random.Random(203)
        turned = 0
        for _ in range(2500):
            reader = random_reader(rng)
            rules = plain_rules(reader)
            chosen = rng.sample(rules, min(len(rules), rng.choice((0, 1, 1, 2, 3))))
            cells = random_cells(rng, 20)
            expected = shown(PlainTurned(reader, chosen), cells)
            turned += expected != shown(reader, cells)
            for row in (cells, tuple(cells), Row(cells)):
                self.assertEqual(shows_turned(reader, chosen, row), expected)
            self.assertEqual(shows_turned(reader, tuple(chosen[::-1]), cells), expected)
        self.assertGreater(turned, 800)

    def test_the_first_cell_that_is_read_by_a_turned_rule(self):
        # Before it all is as it was, and nothing follows it.
        rng = random.Random(204)
        for _ in range(500):
            reader = random_reader(rng)
            rules = plain_rules(reader)
            chosen = rng.sample(rules, rng.randint(0, len(rules)))
            cells = random_cells(rng, 15)
            places, refused = shows_turned(reader, chosen, cells)
            if not set(used(reader, cells)) & set(chosen):
                self.assertEqual((list(places), refused), (cuts(reader, cells), run(reader, cells).refused))
            else:
                self.assertFalse(set(used(reader, cells[:refused - 1])) & set(chosen))
                self.assertTrue(set(used(reader, cells[:refused])) & set(chosen))
                self.assertEqual(list(places), cuts(reader, cells[:refused - 1]))

    def test_the_example(self):
        self.assertEqual(shows_turned(BLOCK, [("head", 0)], [0, 1]), ((), 1))

    def test_no_rules_and_the_empty_row(self):
        self.assertEqual(shows_turned(WAYS, [], [0, 3, 1, 1, 1, 0, 2, 0]), ((1, 5, 6), 7))
        self.assertEqual(shows_turned(WAYS, (), [0]), ((1,), None))
        for row in ([], (), Row()):
            self.assertEqual(shows_turned(WAYS, rules_of(WAYS), row), ((), None))

    def test_a_jump_refuses_behind_its_first_cell(self):
        for many in (1, 2, 3, 4):
            reader = reader_of(f"a: jump {many} b", "b: cut")
            for size in (1, 2, 4, 8):
                self.assertEqual(shows_turned(reader, [("a", 0)], [7] * size), ((), 1))
        self.assertEqual(shows_turned(WAYS, [("b", 0)], [0, 3]), ((1,), None))
        self.assertEqual(shows_turned(WAYS, [("b", 0)], [0, 3, 3, 3, 3]), ((1,), 3))

    def test_ways_of_a_case_line(self):
        row = [0, 3, 1, 1, 1, 0]
        self.assertEqual(shows_turned(WAYS, [("a", 0)], row), ((1,), 2))
        self.assertEqual(shows_turned(WAYS, [("a", 1)], row), ((), 1))
        # The last way, of a cell that is refused anyway, and of one that is not.
        self.assertEqual(shows_turned(WAYS, [("a", 2)], row), ((1, 5, 6), None))
        self.assertEqual(shows_turned(WAYS, [("a", 2)], [0, 4, 0]), shows_turned(WAYS, [], [0, 4, 0]))
        last = WAYS.replaced("a", ("case", ((3, "b"), (0, "d")), "c"))
        self.assertEqual(shows_turned(last, [("a", 2)], [3, 1, 1, 1, 5, 5]), ((4,), 5))
        alone = reader_of("a: case else b", "b: cut")
        self.assertEqual(shows_turned(alone, [("a", 0)], [0, 0]), ((), 1))

    def test_a_cell_behind_which_it_would_cut(self):
        for line in ("a: take b", "a: rest 2 b", "a: cap 0 b", "a: jump 1 b"):
            reader = reader_of(line, "b: cut")
            self.assertEqual(shows_turned(reader, [], [4, 4]), ((1, 2), None))
            self.assertEqual(shows_turned(reader, [("a", 0)], [4, 4]), ((), 1))

    def test_turned_rules_behind_a_skip(self):
        reader = reader_of("a: take b", "b: skip 0 c", "c: cap 3 d", "d: cut")
        self.assertEqual(shows_turned(reader, [("c", 0)], [2, 0, 0]), ((), None))
        self.assertEqual(shows_turned(reader, [("c", 0)], [2, 0, 0, 0]), ((), 4))

    def test_eight_lines_without_a_refusal(self):
        reader = Reader([(name, ("case", ((0, "a"), (1, "h")), goal)) for name, goal in zip("abcdefg", "bcdefgh")]
                        + [("h", ("jump", 4, "a"))])
        rules = rules_of(reader)
        self.assertEqual(shows_turned(reader, rules[1::3] + [("h", 0)], [2] * 10), ((), 8))
        self.assertEqual(shows_turned(reader, rules[1:2], [0] * 900 + [1, 1]), ((), 901))

    def test_rules_may_be_told_twice(self):
        self.assertEqual(shows_turned(BLOCK, [("head", 0), ("head", 0)], [0]), ((), 1))

    def test_rows_of_1000_and_1001_cells(self):
        every = tuple(range(1, 1001))
        self.assertEqual(shows_turned(BLOCK, [], [0] * 1000), (every, None))
        self.assertEqual(shows_turned(BLOCK, [], Row([0]) * 1000), (every, None))
        for row in ([0] * 1001, Row([0]) * HUGE, [0, 1] * 500 + [0], [0, 1] * 501):
            self.assert_raises(TooGreat, None, None, shows_turned, BLOCK, [], row)
            self.assert_raises(TooGreat, None, None, shows_turned, BLOCK, [("x", 0)], row)
        for row in ([0, -1], (-1, -2), [0] * 1001 + [-1], [0, 1] * 501 + [-1]):
            self.assert_raises(BadCell, "cell", -1, shows_turned, BLOCK, [("x", 0)], row)

    def test_rules_that_are_none(self):
        for rule in (("x", 0), ("body", 0), ("end", 0), ("head", 1), ("head", -1), ("head", HUGE), ("", 0), ("Head", 0)):
            self.assert_raises(NoRule, "rule", rule, shows_turned, BLOCK, [rule], [])
            self.assert_raises(NoRule, "rule", rule, makes_safe, BLOCK, [("head", 0), rule, ("y", 0)], [])
        for rule in (("a", 3), ("b", 1), ("c", 0), ("d", 0), ("e", 0)):
            self.assert_raises(NoRule, "rule", rule, shows_turned, WAYS, (("a", 2), rule), [3])
            self.assert_raises(NoRule, "rule", rule, makes_safe, WAYS, (rule,), [BLOCK])

    def test_the_first_one_in_the_order_handed_in(self):
        for call, last in ((shows_turned, [0]), (makes_safe, [COUNTED])):
            self.assert_raises(NoRule, "rule", ("y", 0), call, WAYS, [("b", 0), ("y", 0), ("a", 9), ("c", 0)], last)
            self.assert_raises(NoRule, "rule", ("a", 9), call, WAYS, [("a", 9), ("b", 0), ("y", 0)], last)


class Safe(Case):
    def test_readers_whose_rows_are_all_searched(self):
        rng = random.Random(211)
        answers = {True: 0, False: 0}
        for _ in range(400):
            reader = random_reader(rng, None, NO_TAKE)
            rules = plain_rules(reader)
            chosen = rng.sample(rules, min(len(rules), rng.choice((0, 1, 1, 2))))
            others = random_others(rng, reader, NO_TAKE)
            turned = PlainTurned(reader, chosen)
            expected = not any(parts(turned, other, 17) for other in others)
            self.assertIs(makes_safe(reader, chosen, others), expected)
            self.assertIs(makes_safe(reader, tuple(chosen[::-1]), tuple(others[::-1])), expected)
            answers[expected] += 1
        self.assertGreater(min(answers.values()), 80)

    def test_readers_that_take(self):
        rng = random.Random(212)
        answers = {True: 0, False: 0}
        for _ in range(400):
            reader, other = random_pair(rng) if rng.random() < 0.6 else skipping_pair(rng)
            rules = plain_rules(reader)
            chosen = rng.sample(rules, min(len(rules), rng.choice((0, 1, 1, 2))))
            expected = not parts(PlainTurned(reader, chosen), other, 20)
            self.assertIs(makes_safe(reader, chosen, [other]), expected)
            answers[expected] += 1
        self.assertGreater(min(answers.values()), 100)

    def test_the_example(self):
        self.assertIs(makes_safe(BLOCK, [], [COUNTED]), False)
        self.assertIs(makes_safe(BLOCK, [("head", 0)], [COUNTED]), True)

    def test_no_others(self):
        for rules in ([], rules_of(WAYS), (("a", 1),)):
            self.assertIs(makes_safe(WAYS, rules, []), True)
            self.assertIs(makes_safe(WAYS, rules, ()), True)

    def test_all_others_count(self):
        self.assertIs(makes_safe(BLOCK, [], [BLOCK, REFUSES]), True)
        for others in ([BLOCK, COUNTED], [COUNTED, BLOCK], [REFUSES, BLOCK, COUNTED]):
            self.assertIs(makes_safe(BLOCK, [], others), False)

    def test_great_cells_count(self):
        # They part with a number of 6 and more alone: far beyond what a row of small cells tells.
        one = reader_of("a: take b", "b: upto 5 no else c", "c: skip 0 d", "d: cut", "no: refuse")
        other = one.replaced("c", ("skip", 1, "d"))
        self.assertIs(makes_safe(one, [], [other]), False)
        self.assertIs(makes_safe(one, [("a", 0)], [other]), True)

    def test_a_reader_that_is_turned_is_not_the_other_one(self):
        # With the last rule of one turned, the other one still cuts behind a 1, and one does not yet.
        one = reader_of("a: case 0 b else c", "b: cut", "c: jump 1 b")
        other = one.replaced("a", ("case", ((0, "b"), (1, "b")), "c"))
        self.assertEqual([makes_safe(one, [rule], [other]) for rule in rules_of(one)], [False, True, False])
        self.assertEqual([makes_safe(other, [rule], [one]) for rule in rules_of(other)], [False, True, False, False])


class Least(Case):
    def check(self, reader, others, most):
        """Compares the least sets with the rules of point 21 over all sets of rules."""
        rules = plain_rules(reader)
        safe = []
        for chosen in all_sets(rules):
            turned = PlainTurned(reader, chosen)
            if not any(parts(turned, other, most) for other in others):
                safe.append(chosen)
        self.assertIn(tuple(rules), safe)
        least = [chosen for chosen in safe if not any(set(smaller) < set(chosen) for smaller in safe)]
        self.assertEqual(least_sets(reader, others), least)
        return safe, least

    def test_readers_whose_rows_are_all_searched(self):
        rng = random.Random(213)
        sizes = set()
        checked = 0
        while checked < 150:
            reader = random_reader(rng, None, NO_TAKE)
            if len(plain_rules(reader)) > 5:
                continue
            others = random_others(rng, reader, NO_TAKE)
            safe, least = self.check(reader, others, 17)
            for chosen in all_sets(plain_rules(reader)):
                self.assertIs(makes_safe(reader, chosen, others), chosen in safe)
            sizes.add((len(least), max(len(chosen) for chosen in least)))
            checked += 1
        self.assertGreater(len(sizes), 5)

    def test_readers_that_take(self):
        rng = random.Random(214)
        several = 0
        checked = 0
        while checked < 120:
            reader, other = random_pair(rng) if rng.random() < 0.5 else skipping_pair(rng)
            if 1 < len(plain_rules(reader)) < 6:
                others = [other, *random_others(rng, reader)]
                several += len(self.check(reader, others, 20)[1]) > 1
                checked += 1
        self.assertGreater(several, 15)

    def test_each_parting_row_uses_a_rule(self):
        rng = random.Random(215)
        rows = [cells for size in range(1, 6) for cells in itertools.product(range(4), repeat=size)]
        checked = 0
        while checked < 25:
            reader, other = random_pair(rng)
            if len(plain_rules(reader)) > 10:
                continue
            sets = least_sets(reader, [other])
            for cells in rows:
                if first_place(reader, other, cells, "part") == len(cells):
                    own = set(used(reader, cells))
                    self.assertTrue(all(own & set(chosen) for chosen in sets))
            checked += 1

    def test_the_example(self):
        self.assertEqual(least_sets(BLOCK, [COUNTED]), [(("head", 0),)])

    def test_the_order(self):
        reader = reader_of("a: case 3 b 0 c 1 c else d", "b: jump 2 c", "c: cut", "d: jump 1 c")
        other = reader_of("a: case 3 b 0 c 1 b else d", "b: jump 1 c", "c: cut", "d: jump 2 c")
        safe, least = self.check(reader, [other], 9)
        # In the order of the lines, not of the names or values.
        self.assertEqual(least, [(("a", 0), ("a", 2), ("a", 3)), (("a", 0), ("a", 2), ("d", 0)),
                                 (("a", 2), ("a", 3), ("b", 0)), (("a", 2), ("b", 0), ("d", 0))])
        crossed = reader_of("z: case 0 y else x", "x: take x", "y: jump 1 c", "c: cut")
        self.assertEqual(self.check(crossed, [reader_of("a: jump 1 a")], 9)[1], [(("z", 0),), (("y", 0),)])
        # One rule that is behind all others comes before the pairs.
        joined = reader_of("a: case 0 b 1 b else no", "b: jump 1 c", "c: cut", "no: refuse")
        self.assertEqual(self.check(joined, [reader_of("a: jump 1 a")], 9)[1], [(("b", 0),), (("a", 0), ("a", 1))])

    def test_no_others_and_alike_readers(self):
        for others in ([], (), [WAYS], [REFUSES], [WAYS, REFUSES, WAYS]):
            self.assertEqual(least_sets(WAYS, others), [()])

    def test_all_rules_are_needed(self):
        reader = reader_of("a: case 0 b 1 b 2 b else c", "b: cut", "c: cut")
        never = reader_of("a: jump 1 a")
        self.assertEqual(least_sets(reader, [never]), [tuple(rules_of(reader))])

    def test_rules_of_lines_that_are_never_come_to_stand_in_no_least_set(self):
        reader = reader_of("a: take b", "b: cut", "c: jump 1 b")
        self.assertEqual(least_sets(reader, [reader_of("a: jump 2 b", "b: cut")]), [(("a", 0),)])

    def test_10_and_11_rules(self):
        never = reader_of("a: jump 1 a")
        ten, eleven = with_rules(10), with_rules(11)
        self.assertEqual([len(rules_of(ten)), len(rules_of(eleven))], [10, 11])
        self.assertEqual(least_sets(ten, [ten]), [()])
        rules = rules_of(ten)
        self.assertEqual(least_sets(ten, [never]), [tuple(rules[:7]), (*rules[:6], *rules[7:9])])
        for others in ([], [never], [eleven]):
            self.assert_raises(TooMany, "count", 11, least_sets, eleven, others)
        ways = tuple((value, "a") for value in range(6))
        most = Reader([(name, ("case", ways, "a")) for name in "abcdefgh"])
        self.assert_raises(TooMany, "count", 56, least_sets, most, [])
        self.assertIs(makes_safe(eleven, rules_of(eleven), [never]), True)

    def test_ten_rules_in_many_least_sets(self):
        # Five cells, each of them read by one of two rules: a row that parts them uses one of each.
        lines = [f"{name}: case 0 {goal} else {goal}" for name, goal in zip("abcde", "bcdef")]
        reader = reader_of(*lines, "f: cut")
        sets = least_sets(reader, [reader_of("a: jump 1 a"), reader_of("a: take a")])
        self.assertEqual(sets, [((name, 0), (name, 1)) for name in "abcde"])
        guarded = reader_of("a: case 0 b 1 c 2 d 3 e else f", "b: jump 1 g", "c: jump 1 g", "d: jump 1 g", "e: jump 1 g",
                            "f: jump 1 g", "g: cut")
        sets = least_sets(guarded, [reader_of("a: jump 1 a")])
        rules = rules_of(guarded)
        expected = itertools.product(*zip(rules[:5], rules[5:]))
        self.assertEqual(sets, sorted(tuple(sorted(chosen)) for chosen in expected))
        self.assertEqual(len(sets), 32)

    def test_a_new_list_each_time(self):
        least_sets(BLOCK, [COUNTED]).clear()
        self.assertEqual(least_sets(BLOCK, [COUNTED]), [(("head", 0),)])

    def test_what_is_handed_in_stays(self):
        rules, others, row = [("b", 0), ("a", 1)], [COUNTED, PIECES], [0, 3, 1]
        texts = [written(reader) for reader in (WAYS, *others)]
        shows_turned(WAYS, rules, row)
        used(WAYS, row)
        makes_safe(WAYS, rules, others)
        least_sets(WAYS, others)
        self.assertEqual([rules, row, len(others)], [[("b", 0), ("a", 1)], [0, 3, 1], 2])
        self.assertEqual([written(reader) for reader in (WAYS, *others)], texts)


if __name__ == "__main__":
    unittest.main()
