import doctest
import unittest
from pathlib import Path

README = Path(__file__).resolve().parent.parent / "README.md"


class Examples(unittest.TestCase):
    def test_the_examples_of_the_readme(self):
        told = doctest.testfile(str(README), module_relative=False, encoding="utf-8")
        self.assertEqual(told.failed, 0)
        self.assertGreaterEqual(told.attempted, 48)


if __name__ == "__main__":
    unittest.main()
