import unittest

from helper import EIGHT, SMALL, Case
from splitalike.errors import BadBegin, BadReader, BadRing, BadText, TooMany
from splitalike.readers import Reader
from splitalike.texts import read_reader, written

EIGHT_TEXT = """head: case 3 low 0 low 5 keep else jumping
low: rest 3 test
keep: take test
jumping: jump 4 fixed
fixed: set 5 pass
test: upto 2 pass else no
pass: skip -3 no
no: refuse"""

# Names that are words of the language.
WORDS = (
    ("case", ("case", ((0, "else"), (5, "case")), "else")),
    ("else", ("case", (), "upto")),
    ("upto", ("upto", 1, "else", "skip")),
    ("skip", ("rest", 2, "cut")),
    ("cut", ("skip", 0, "take")),
    ("take", ("cut",)),
)
WORDS_TEXT = """case: case 0 else 5 case else else
else: case else upto
upto: upto 1 else else skip
skip: rest 2 cut
cut: skip 0 take
take: cut"""

# Rows of text that tell a line of a valid form, whatever a Reader says of it.
VALID = [
    "b: case else c", "b: case 0 c else c", "b: case 5 c 0 b 3 c else b", "b: case -1 c else c",
    "b: case 2 c 2 c else c", "b: case else else", "b: case 0 else else else", "b: case 999999999 b else c", "b: take c",
    "b: rest 2 c", "b: rest 0 c", "b: rest -999999999 c", "b: cap 0 c", "b: cap 123456789 c",
    "b: jump 4 c", "b: jump -7 c", "b: set 0 c", "b: set 10 c", "b: upto 0 c else c", "b: upto -10 c else b",
    "b: skip -3 c", "b: skip 0 c", "b: skip 100000000 c", "b: cut", "b: refuse", "abcdefghijkl: cut", "b: take nowhere",
]

INVALID = [
    "", " ", ":", "b", "b:", "b: ", ": cut", "cut", "b cut", "b:cut", "b :cut", "b : cut", "b:: cut",
    " b: cut", "b:  cut", "b: cut ", "b: cut  ", "\tb: cut", "b:\tcut", "b: cut\t", "b: cut\r", "b: cut\x0b", "b: cut\u00a0",
    "b: cuts", "b: Cut", "b: CUT", "b: else", "b: else c", "b: goto c", "b: cut c", "b: cut 0", "b: refuse c",
    "B: cut", "b1: cut", "b_: cut", "abcdefghijklm: cut", "\u00e9: cut", "\u03b1: cut", "b c: cut", "b: cut # end",
    "b: take", "b: take ", "b: take C", "b: take 1", "b: take c c", "b: take  c", "b: take abcdefghijklm", "b: take c1",
    "b: take \u00e9", "b: take -c", "b: take c,",
    "b: rest c", "b: rest 2", "b: rest 2  c", "b: rest  2 c", "b: rest c 2", "b: rest 2 c c", "b: rest 2 3", "b: rest 2c",
    "b: cap +1 c", "b: cap 01 c", "b: cap 00 c", "b: cap -0 c", "b: cap -01 c", "b: cap - c", "b: cap --1 c", "b: cap 1- c",
    "b: cap 1234567890 c", "b: cap -1234567890 c", "b: cap 0000000001 c", "b: cap 1.0 c", "b: cap 1_0 c", "b: cap 0x1 c",
    "b: cap \u00b2 c", "b: cap \u0661 c", "b: cap  c", "b: cap 1e1 c",
    "b: jump -0 c", "b: jump +0 c", "b: set -0 c", "b: set 1234567890 c", "b: skip -0 c", "b: skip +1 c", "b: skip -03 c",
    "b: skip -1234567890 c", "b: skip - 3 c", "b: rest -0 c", "b: rest 02 c",
    "b: upto 0 c", "b: upto 0 c c", "b: upto 0 c else", "b: upto 0 else c", "b: upto c else c", "b: upto 0 c Else c",
    "b: upto 0 c else c c", "b: upto -0 c else c", "b: upto 0 c  else c", "b: upto 0 c otherwise c", "b: upto 1 c 2 c else c",
    "b: case", "b: case else else else", "b: case c", "b: case else", "b: case 0 c", "b: case 0 c c", "b: case 0 else c", "b: case c else c",
    "b: case 0 c else", "b: case 0 c else c c", "b: case c 0 else c", "b: case 0 c 1 else c", "b: case -0 c else c",
    "b: case 00 c else c", "b: case +0 c else c", "b: case 1234567890 c else c", "b: case 0 c  else c", "b: case  else c",
    "b: case else c else c", "b: case 0 1 else c", "b: case 0 c else 1", "b: case 0 c, 1 c else c", "b: case else  c",
]


class Written(Case):
    def test_all_words(self):
        self.assertEqual(written(Reader(EIGHT)), EIGHT_TEXT)
        self.assertEqual(written(Reader(SMALL)), "a: cap 5 b\nb: skip 4 c\nc: cut")

    def test_ways_in_the_order_of_the_line_and_no_ways(self):
        lines = [("a", ("case", [(5, "a"), (0, "b"), (2, "a")], "b")), ("b", ("case", [], "a"))]
        self.assertEqual(written(Reader(lines)), "a: case 5 a 0 b 2 a else b\nb: case else a")

    def test_names_that_are_words(self):
        self.assertEqual(written(Reader(WORDS)), WORDS_TEXT)

    def test_one_line(self):
        self.assertEqual(written(Reader([("abcdefghijkl", ("take", "abcdefghijkl"))])), "abcdefghijkl: take abcdefghijkl")

    def test_integers(self):
        for number in range(-3, 5):
            lines = [("a", ("take", "b")), ("b", ("skip", number, "a"))]
            self.assertEqual(written(Reader(lines)), "a: take b\nb: skip {} a".format(number))


class Read(Case):
    def test_all_words(self):
        self.assertEqual(read_reader(EIGHT_TEXT).lines, EIGHT)
        self.assertTrue(read_reader(EIGHT_TEXT) == Reader(EIGHT))

    def test_names_that_are_words(self):
        self.assertEqual(read_reader(WORDS_TEXT).lines, WORDS)

    def test_both_directions(self):
        texts = [EIGHT_TEXT, WORDS_TEXT, "a: cap 5 b\nb: skip 4 c\nc: cut", "a: case else a"]
        for low, high, form in ((2, 4, "rest {} c"), (0, 5, "cap {} c"), (1, 4, "jump {} c"), (0, 5, "set {} c"),
                                (0, 5, "upto {} c else a"), (-3, 4, "skip {} a"), (0, 5, "case {} a else b")):
            for number in range(low, high + 1):
                texts.append("a: take b\nb: " + form.format(number) + "\nc: cut")
        for text in texts:
            reader = read_reader(text)
            self.assertEqual(written(reader), text)
            self.assertTrue(read_reader(written(reader)) == reader)

    def test_eight_lines_and_nine(self):
        rows = ["{}: take a".format(name) for name in "abcdefghi"]
        self.assertEqual(read_reader("\n".join(rows[:8])).names(), list("abcdefgh"))
        self.assert_raises(TooMany, "count", 9, read_reader, "\n".join(rows))

    def test_valid_forms_are_no_bad_text(self):
        for row in VALID:
            # What a Reader says of such a line is no matter here: the second text has no form.
            self.assert_raises(BadText, "line", 3, read_reader, "a: take a\n" + row + "\n?")


class Wrong(Case):
    def test_invalid_forms(self):
        for row in INVALID:
            for text, number in ((row, 1), ("a: take a\n" + row, 2), ("a: take a\n" + row + "\nc: cut", 2)):
                with self.subTest(text):
                    self.assert_raises(BadText, "line", number, read_reader, text)

    def test_the_empty_text_and_empty_lines(self):
        self.assert_raises(BadText, "line", 1, read_reader, "")
        self.assert_raises(BadText, "line", 1, read_reader, "\n")
        self.assert_raises(BadText, "line", 1, read_reader, "\na: take a")
        self.assert_raises(BadText, "line", 2, read_reader, "a: take a\n")
        self.assert_raises(BadText, "line", 2, read_reader, "a: take a\n\nb: cut")
        self.assert_raises(BadText, "line", 3, read_reader, "a: take a\nb: cut\n")

    def test_only_line_feeds_separate(self):
        for sign in ("\r\n", "\r", "\x0b", "\x0c", "\x1c", "\x85", "\u2028", ";", " "):
            self.assert_raises(BadText, "line", 1, read_reader, "a: take a" + sign + "b: cut")

    def test_the_first_line_without_a_form(self):
        self.assert_raises(BadText, "line", 2, read_reader, "a: take a\nb: cut 1\nc\nd: cut")

    def test_bad_text_comes_before_the_errors_of_a_reader(self):
        nine = ["{}: take a".format(name) for name in "abcdefghi"]
        self.assert_raises(BadText, "line", 10, read_reader, "\n".join([*nine, ""]))
        self.assert_raises(BadText, "line", 9, read_reader, "\n".join([*nine[:8], "i: jump a"]))
        self.assert_raises(BadText, "line", 2, read_reader, "a: jump 0 a\nb: jump +1 a")
        self.assert_raises(BadText, "line", 3, read_reader, "a: cut\na: take x\nb: set -0 b")

    def test_errors_of_a_reader_follow(self):
        self.assert_raises(BadReader, "number", 1, read_reader, "a: take a\na: cut")
        self.assert_raises(BadReader, "number", 1, read_reader, "a: take a\nb: jump 999999999 a")
        self.assert_raises(BadReader, "number", 1, read_reader, "a: take a\nb: skip -999999999 a")
        self.assert_raises(BadReader, "number", 1, read_reader, "a: take a\nb: jump -1 a")
        self.assert_raises(BadReader, "number", 0, read_reader, "a: case 6 a else a")
        self.assert_raises(BadReader, "number", 0, read_reader, "a: case 1 a 1 a else a")
        self.assert_raises(BadReader, "number", 0, read_reader, "a: case " + "1 a " * 50 + "else a")
        self.assert_raises(BadReader, "number", 0, read_reader, "a: take b")
        self.assert_raises(BadRing, "number", 1, read_reader, "a: take b\nb: set 0 b")
        self.assert_raises(BadBegin, "number", 0, read_reader, "a: cut")


if __name__ == "__main__":
    unittest.main()
