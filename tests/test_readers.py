import copy
import itertools
import unittest

from helper import EIGHT, SMALL, Case
from splitalike.errors import BadBegin, BadReader, BadRing, NoLine, TooMany
from splitalike.readers import Reader
from splitalike.rows import Row

READING = ["case", "take", "rest", "cap", "jump"]


def frames(word, goal):
    """A line with this word that goes to one goal alone, and the least it needs."""
    return {
        "case": ("case", ((1, goal),), goal),
        "take": ("take", goal),
        "rest": ("rest", 2, goal),
        "cap": ("cap", 0, goal),
        "jump": ("jump", 1, goal),
        "set": ("set", 0, goal),
        "upto": ("upto", 0, goal, goal),
        "skip": ("skip", 0, goal),
        "cut": ("cut",),
        "refuse": ("refuse",),
    }[word]


def chain(many):
    """A valid reader with so many lines."""
    lines = [(letter, ("take", chr(ord(letter) + 1))) for letter in "abcdefghijkl"[:many - 1]]
    return [*lines, ("abcdefghijkl"[many - 1], ("take", "a"))]


class FormCase(Case):
    def refused(self, line):
        """The line, as the second of a reader, is refused for its form."""
        lines = [("a", ("take", "b")), ("b", line), ("c", ("cut",))]
        self.assert_raises(BadReader, "number", 1, Reader, lines)

    def taken(self, line):
        lines = (("a", ("take", "b")), ("b", line), ("c", ("cut",)))
        self.assertEqual(Reader(lines).lines, lines)


class Lines(Case):
    def test_lines_are_kept(self):
        self.assertEqual(Reader(EIGHT).lines, EIGHT)
        self.assertEqual(Reader(SMALL).lines, SMALL)

    def test_readers_of_one_to_eight_lines(self):
        for many in range(1, 9):
            lines = chain(many)
            self.assertEqual(Reader(lines).lines, tuple(lines))
            self.assertEqual(Reader(lines).names(), list("abcdefgh"[:many]))

    def test_lines_are_tuples_throughout(self):
        given = [["head", ["case", [[3, "end"], [0, "end"]], "head"]], ["end", ["cut"]]]
        lines = Reader(given).lines
        self.assertEqual(lines, (("head", ("case", ((3, "end"), (0, "end")), "head")), ("end", ("cut",))))
        self.assertIs(type(lines), tuple)
        self.assertTrue(all(type(pair) is tuple and type(pair[1]) is tuple for pair in lines))
        self.assertIs(type(lines[0][1][1]), tuple)
        self.assertTrue(all(type(way) is tuple for way in lines[0][1][1]))

    def test_what_is_given_stays_and_later_changes_have_no_effect(self):
        given = [["head", ["case", [[3, "end"], [0, "end"]], "head"]], ["end", ["cut"]]]
        before = copy.deepcopy(given)
        reader = Reader(given)
        self.assertEqual(given, before)
        kept = reader.lines
        given[0][1][1][0][0] = 5
        given[0][1][1].append([1, "head"])
        given[1][0] = "other"
        given[1][1][0] = "refuse"
        given.pop()
        self.assertEqual(reader.lines, kept)
        self.assertEqual(reader.lines[0][1][1], ((3, "end"), (0, "end")))
        self.assertEqual(reader.names(), ["head", "end"])
        self.assertEqual(reader.exits("head"), ["end", "head"])
        self.assertEqual(reader.line_of("end"), ("cut",))

    def test_equal_with_the_same_lines_in_the_same_order(self):
        self.assertTrue(Reader(SMALL) == Reader([list(pair) for pair in SMALL]))
        self.assertFalse(Reader(SMALL) != Reader(SMALL))
        self.assertFalse(Reader(SMALL) == Reader(EIGHT))

    def test_unequal_in_names_order_or_entries(self):
        one = Reader([("a", ("take", "a")), ("b", ("cut",)), ("c", ("refuse",))])
        self.assertFalse(one == Reader([("a", ("take", "a")), ("c", ("refuse",)), ("b", ("cut",))]))
        self.assertFalse(one == Reader([("a", ("take", "a")), ("x", ("cut",)), ("c", ("refuse",))]))
        self.assertFalse(one == Reader([("a", ("take", "b")), ("b", ("cut",)), ("c", ("refuse",))]))
        self.assertFalse(one == Reader([("a", ("take", "a")), ("b", ("cut",))]))
        ways = Reader([("a", ("case", [(0, "a"), (1, "a")], "a"))])
        self.assertFalse(ways == Reader([("a", ("case", [(1, "a"), (0, "a")], "a"))]))

    def test_unequal_to_objects_of_other_classes(self):
        for other in (SMALL, list(SMALL), None, 3, "a: take b", Row()):
            self.assertIs(Reader(SMALL) == other, False)
            self.assertIs(Reader(SMALL) != other, True)


class Questions(Case):
    def test_names_in_order(self):
        self.assertEqual(Reader(EIGHT).names(), ["head", "low", "keep", "jumping", "fixed", "test", "pass", "no"])
        self.assertEqual(Reader([("z", ("take", "a")), ("a", ("cut",))]).names(), ["z", "a"])

    def test_line_of(self):
        for name, line in EIGHT:
            self.assertEqual(Reader(EIGHT).line_of(name), line)

    def test_exits(self):
        reader = Reader(EIGHT)
        told = [reader.exits(name) for name in reader.names()]
        self.assertEqual(told, [
            ["low", "keep", "jumping"], ["test"], ["test"], ["fixed"], ["pass"], ["pass", "no"], ["no"], [],
        ])
        self.assertEqual(Reader(SMALL).exits("c"), [])
        self.assertEqual(Reader(SMALL).exits("a"), ["b"])

    def test_exits_are_told_once_in_the_order_in_which_they_are_written(self):
        lines = [
            ("a", ("case", [(5, "c"), (0, "b"), (2, "c")], "b")), ("b", ("take", "d")),
            ("c", ("upto", 0, "b", "a")), ("d", ("upto", 0, "a", "a")),
        ]
        reader = Reader(lines)
        self.assertEqual([reader.exits(name) for name in "abcd"], [["c", "b"], ["d"], ["b", "a"], ["a"]])
        self.assertEqual(Reader([("a", ("case", [], "a"))]).exits("a"), ["a"])

    def test_reads_for_each_word(self):
        for word in ["case", "take", "rest", "cap", "jump", "set", "upto", "skip", "cut", "refuse"]:
            reader = Reader([("a", ("take", "b")), ("b", frames(word, "c")), ("c", ("take", "a"))])
            self.assertIs(reader.reads("b"), word in READING, word)

    def test_replaced(self):
        reader = Reader(SMALL)
        other = reader.replaced("b", ["case", [[0, "a"]], "c"])
        self.assertEqual(other.lines, (SMALL[0], ("b", ("case", ((0, "a"),), "c")), SMALL[2]))
        self.assertEqual(reader.lines, SMALL)
        self.assertTrue(reader.replaced("b", SMALL[1][1]) == reader)
        self.assertEqual(reader.replaced("a", ("take", "a")).names(), ["a", "b", "c"])

    def test_replaced_copies_its_line(self):
        line = ["case", [[0, "a"]], "c"]
        other = Reader(SMALL).replaced("b", line)
        self.assertEqual(line, ["case", [[0, "a"]], "c"])
        line[1][0][0] = 4
        line[2] = "b"
        self.assertEqual(other.line_of("b"), ("case", ((0, "a"),), "c"))

    def test_replaced_has_the_errors_of_a_reader(self):
        reader = Reader(SMALL)
        self.assert_raises(BadReader, "number", 1, reader.replaced, "b", ("skip", 5, "c"))
        self.assert_raises(BadReader, "number", 1, reader.replaced, "b", ())
        self.assert_raises(BadReader, "number", 2, reader.replaced, "c", ("take", "d"))
        self.assert_raises(BadRing, "number", 1, reader.replaced, "c", ("set", 0, "b"))
        self.assert_raises(BadBegin, "number", 1, reader.replaced, "a", ("set", 0, "b"))
        self.assertEqual(reader.lines, SMALL)

    def test_no_line_is_raised_first(self):
        reader = Reader(SMALL)
        for name in ("d", "", "A", "ab", "aaaaaaaaaaaaa"):
            self.assert_raises(NoLine, "name", name, reader.line_of, name)
            self.assert_raises(NoLine, "name", name, reader.exits, name)
            self.assert_raises(NoLine, "name", name, reader.reads, name)
            self.assert_raises(NoLine, "name", name, reader.replaced, name, ("cut",))
            self.assert_raises(NoLine, "name", name, reader.replaced, name, ("jump", 9, "nowhere"))

    def test_lists_are_new_ones(self):
        reader = Reader(SMALL)
        reader.names().append("x")
        reader.exits("a").append("x")
        self.assertEqual([reader.names(), reader.exits("a")], [["a", "b", "c"], ["b"]])


class Forms(FormCase):
    def test_eight_lines_and_nine(self):
        self.assertEqual(len(Reader(chain(8)).lines), 8)
        self.assert_raises(TooMany, "count", 9, Reader, chain(9))
        self.assert_raises(TooMany, "count", 12, Reader, tuple(chain(12)))

    def test_no_lines(self):
        self.assert_raises(BadReader, "number", 0, Reader, [])
        self.assert_raises(BadReader, "number", 0, Reader, ())

    def test_names(self):
        for name in ("a", "z", "abcdefghijkl", "zzzzzzzzzzzz", "cut", "else", "case"):
            self.assertEqual(Reader([(name, ("take", name))]).names(), [name])
        for name in ("", "abcdefghijklm", "A", "aB", "a1", "a b", " a", "a\n", "a_", "a:", "\u00e9", "\u03b1", "\u00df"):
            self.assert_raises(BadReader, "number", 1, Reader, [("a", ("take", "a")), (name, ("cut",))])

    def test_a_name_that_came_before(self):
        lines = [("a", ("take", "b")), ("b", ("cut",)), ("c", ("cut",)), ("b", ("cut",)), ("a", ("cut",))]
        self.assert_raises(BadReader, "number", 3, Reader, lines)

    def test_words(self):
        for line in ((), [], ("cuts",), ("",), ("Cut",), ("cut ",), ("else", "c"), ("goto", 1, "c"), ("read", "c")):
            self.refused(line)

    def test_numbers_of_entries(self):
        for word in ["case", "take", "rest", "cap", "jump", "set", "upto", "skip", "cut", "refuse"]:
            line = frames(word, "c")
            self.taken(line)
            self.refused((*line, "c"))
            self.refused((*line, 1))
            self.refused(line[:-1])
        for word in ["case", "take", "rest", "cap", "jump", "set", "upto", "skip"]:
            self.refused((word,))

    def test_bounds_of_integers(self):
        bounds = {"rest": (2, 4), "cap": (0, 5), "jump": (1, 4), "set": (0, 5), "upto": (0, 5), "skip": (-3, 4)}
        for word, (low, high) in bounds.items():
            rest = frames(word, "c")[2:]
            for number in range(low, high + 1):
                self.taken((word, number, *rest))
            for number in (low - 1, high + 1, -10 ** 30, 10 ** 30):
                self.refused((word, number, *rest))

    def test_bounds_of_values(self):
        for value in range(6):
            self.taken(("case", ((value, "c"),), "a"))
        for value in (-1, 6, 10 ** 30, -10 ** 30):
            self.refused(("case", [(value, "c")], "a"))
            self.refused(("case", [(0, "c"), (value, "c")], "a"))

    def test_values_twice(self):
        self.taken(("case", tuple((value, "c") for value in (5, 3, 1, 0, 2, 4)), "a"))
        self.taken(("case", (), "a"))
        self.refused(("case", [(2, "c"), (2, "c")], "a"))
        self.refused(("case", [(2, "c"), (0, "a"), (2, "a")], "a"))
        self.refused(("case", [(value, "c") for value in (0, 1, 2, 3, 4, 5, 0)], "a"))

    def test_pairs_that_are_none(self):
        self.refused(("case", [(2,)], "a"))
        self.refused(("case", [(2, "c", "c")], "a"))
        self.refused(("case", [()], "a"))
        self.refused(("case", [(1, "c"), [3]], "a"))

    def test_names_to_go_to(self):
        for word in ["case", "take", "rest", "cap", "jump", "set", "upto", "skip"]:
            for goal in ("d", "", "A", "cc"):
                self.refused(frames(word, goal))
        self.refused(("case", ((0, "c"), (1, "d")), "c"))
        self.refused(("case", ((0, "c"), (1, "c")), "d"))
        self.refused(("upto", 0, "d", "c"))
        self.refused(("upto", 0, "c", "d"))

    def test_one_line_goes_to_itself(self):
        self.assertEqual(Reader([("a", ("take", "a"))]).exits("a"), ["a"])


class Rings(Case):
    def test_silent_lines_alone(self):
        for word in ("set", "upto", "skip"):
            self.assert_raises(BadRing, "number", 1, Reader, [("a", ("take", "b")), ("b", frames(word, "b"))])

    def test_the_first_line_on_the_ring_not_the_one_that_leads_to_it(self):
        lines = [
            ("a", ("take", "b")), ("b", ("set", 1, "c")), ("c", ("set", 1, "e")), ("d", ("skip", 4, "c")),
            ("e", ("upto", 3, "f", "d")), ("f", ("cut",)),
        ]
        self.assert_raises(BadRing, "number", 2, Reader, lines)

    def test_rings_that_cannot_be_come_to_count(self):
        lines = [("a", ("take", "b")), ("b", ("cut",)), ("c", ("set", 1, "d")), ("d", ("skip", 1, "c"))]
        self.assert_raises(BadRing, "number", 2, Reader, lines)

    def test_ways_that_no_kept_integer_takes_count(self):
        lines = [("a", ("take", "b")), ("b", ("set", 5, "c")), ("c", ("upto", 5, "d", "b")), ("d", ("cut",))]
        self.assert_raises(BadRing, "number", 1, Reader, lines)

    def test_a_line_that_reads_breaks_a_ring(self):
        for word in READING:
            lines = [("a", ("take", "b")), ("b", ("set", 5, "c")), ("c", frames(word, "b"))]
            self.assertEqual(len(Reader(lines).lines), 3)

    def test_a_cut_has_no_way_on(self):
        lines = [("a", ("take", "b")), ("b", ("set", 5, "c")), ("c", ("cut",))]
        self.assertEqual(len(Reader(lines).lines), 3)


class Begins(Case):
    def test_the_first_line_itself(self):
        others = [("b", ("take", "b"))]
        for line in (("cut",), ("skip", 4, "b"), ("refuse",)):
            self.assert_raises(BadBegin, "number", 0, Reader, [("a", line), *others])

    def test_through_silent_lines(self):
        for last in (("cut",), ("skip", 1, "d"), ("refuse",)):
            lines = [("a", ("set", 2, "b")), ("b", ("upto", 3, "d", "c")), ("c", last), ("d", ("take", "c"))]
            self.assert_raises(BadBegin, "number", 2, Reader, lines)

    def test_through_a_skip_to_a_line_in_front_of_it(self):
        lines = [("a", ("set", 2, "d")), ("b", ("take", "b")), ("c", ("cut",)), ("d", ("skip", 1, "c"))]
        self.assert_raises(BadBegin, "number", 2, Reader, lines)
        lines = [("a", ("set", 2, "d")), ("b", ("take", "c")), ("c", ("cut",)), ("d", ("skip", 1, "b"))]
        self.assert_raises(BadBegin, "number", 3, Reader, lines)

    def test_the_first_of_several(self):
        lines = [("a", ("upto", 2, "d", "c")), ("b", ("cut",)), ("c", ("refuse",)), ("d", ("cut",))]
        self.assert_raises(BadBegin, "number", 2, Reader, lines)

    def test_a_line_that_reads_first_is_enough(self):
        for word in READING:
            for last in (("cut",), ("skip", 1, "b"), ("refuse",)):
                lines = [("a", ("set", 0, "b")), ("b", frames(word, "c")), ("c", last)]
                self.assertEqual(Reader(lines).lines, tuple(lines))

    def test_other_silent_lines_may_begin(self):
        lines = (("a", ("upto", 0, "b", "c")), ("b", ("set", 1, "c")), ("c", ("take", "d")), ("d", ("cut",)))
        self.assertEqual(Reader(lines).lines, lines)


class Order(Case):
    def test_too_many_comes_before_the_forms(self):
        self.assert_raises(TooMany, "count", 9, Reader, [("A", ())] * 9)

    def test_the_first_line_without_a_form(self):
        lines = [("a", ("take", "a")), ("b", ("jump", 0, "a")), ("B", ("cut",)), ("a", ("cut",))]
        self.assert_raises(BadReader, "number", 1, Reader, lines)

    def test_forms_come_before_names_to_go_to(self):
        lines = [("a", ("take", "nowhere")), ("b", ("take", "A")), ("c", ("jump", 5, "a"))]
        self.assert_raises(BadReader, "number", 2, Reader, lines)
        self.assert_raises(BadReader, "number", 0, Reader, [*lines[:2], ("c", ("cut",))])
        lines = [("a", ("take", "a")), ("b", ("take", "x")), ("c", ("take", "y"))]
        self.assert_raises(BadReader, "number", 1, Reader, lines)

    def test_names_to_go_to_come_before_rings(self):
        lines = [("a", ("take", "b")), ("b", ("set", 0, "b")), ("c", ("take", "d"))]
        self.assert_raises(BadReader, "number", 2, Reader, lines)

    def test_names_to_go_to_come_before_begins(self):
        lines = [("a", ("cut",)), ("b", ("take", "c"))]
        self.assert_raises(BadReader, "number", 1, Reader, lines)

    def test_rings_come_before_begins(self):
        lines = [("a", ("cut",)), ("b", ("set", 0, "b"))]
        self.assert_raises(BadRing, "number", 1, Reader, lines)
        lines = [("a", ("skip", 0, "a"))]
        self.assert_raises(BadRing, "number", 0, Reader, lines)


def due(lines):
    """The error of point 7 for lines of valid form, found by walking all ways of few steps."""
    table = dict(lines)
    goals = {name: [entry for entry in line[1:] if isinstance(entry, str)] for name, line in lines}
    silent = {name: line[0] not in READING for name, line in lines}

    def walks(name):
        """The names behind the line, by up to as many steps as there are lines, all from silent lines."""
        ends = []
        edge = [name]
        for _ in lines:
            edge = [goal for own in edge if silent[own] for goal in goals[own]]
            ends.extend(edge)
        return ends

    for number, (name, line) in enumerate(lines):
        if name in walks(name):
            return (BadRing, number)
    begun = [lines[0][0], *walks(lines[0][0])]
    for number, (name, line) in enumerate(lines):
        if name in begun and table[name][0] in ("cut", "skip", "refuse"):
            return (BadBegin, number)
    return None


class AllSmall(Case):
    def test_all_readers_of_three_lines(self):
        lines = [("cut",), ("refuse",)]
        for one in "abc":
            lines.extend([("take", one), ("set", 0, one), ("skip", 0, one)])
        for one, other in itertools.combinations("abc", 2):
            lines.append(("upto", 0, one, other))
        found = []
        for trio in itertools.product(lines, repeat=3):
            reader = list(zip("abc", trio))
            expected = due(reader)
            found.append(expected)
            if expected is None:
                self.assertEqual(Reader(reader).lines, tuple(reader))
            else:
                self.assert_raises(expected[0], "number", expected[1], Reader, reader)
        for number in range(3):
            self.assertIn((BadRing, number), found)
            self.assertIn((BadBegin, number), found)
        self.assertIn(None, found)


if __name__ == "__main__":
    unittest.main()
