"""What the test files share."""

import unittest

# All ten words, in readers of eight lines and of three.
EIGHT = (
    ("head", ("case", ((3, "low"), (0, "low"), (5, "keep")), "jumping")),
    ("low", ("rest", 3, "test")),
    ("keep", ("take", "test")),
    ("jumping", ("jump", 4, "fixed")),
    ("fixed", ("set", 5, "pass")),
    ("test", ("upto", 2, "pass", "no")),
    ("pass", ("skip", -3, "no")),
    ("no", ("refuse",)),
)
SMALL = (
    ("a", ("cap", 5, "b")),
    ("b", ("skip", 4, "c")),
    ("c", ("cut",)),
)


class Case(unittest.TestCase):
    def assert_raises(self, error, attribute, value, call, *values):
        """The call raises just this error, with this value as its attribute (None: it has none)."""
        with self.assertRaises(error) as caught:
            call(*values)
        self.assertIs(caught.exception.__class__, error)
        if attribute is not None:
            self.assertEqual(getattr(caught.exception, attribute), value)
