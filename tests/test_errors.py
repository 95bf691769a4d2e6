import unittest

from splitalike import errors
from splitalike.rows import Row

WITH_ARGUMENT = {
    "BadReader": "number",
    "BadRing": "number",
    "BadBegin": "number",
    "TooMany": "count",
    "NoLine": "name",
    "BadText": "line",
    "BadCell": "cell",
    "BadCount": "count",
    "NoCell": "place",
    "NoReader": "number",
    "BadBound": "bound",
    "NoRule": "rule",
}
WITHOUT_ARGUMENT = ["TooGreat", "NothingToUndo"]
ANY_VALUES = [0, -1, 10 ** 30, -10 ** 6000, "name", "", None, ("head", 0), (), [1], {"a": 2}, Row([1])]


class Errors(unittest.TestCase):
    def test_the_base_class_is_a_value_error(self):
        self.assertEqual(errors.SplitError.__bases__, (ValueError,))

    def test_all_others_are_direct_subclasses(self):
        for name in [*WITH_ARGUMENT, *WITHOUT_ARGUMENT]:
            self.assertEqual(getattr(errors, name).__bases__, (errors.SplitError,), name)

    def test_no_other_errors(self):
        own = [name for name, value in vars(errors).items() if isinstance(value, type)]
        self.assertEqual(sorted(own), sorted([*WITH_ARGUMENT, *WITHOUT_ARGUMENT, "SplitError"]))

    def test_arguments_of_any_value_are_attributes(self):
        for name, attribute in WITH_ARGUMENT.items():
            for value in ANY_VALUES:
                error = getattr(errors, name)(value)
                self.assertIs(getattr(error, attribute), value, name)

    def test_arguments_can_be_named(self):
        for name, attribute in WITH_ARGUMENT.items():
            error = getattr(errors, name)(**{attribute: 3})
            self.assertEqual(getattr(error, attribute), 3, name)

    def test_a_missing_argument_or_one_too_many_is_refused(self):
        for name in WITH_ARGUMENT:
            self.assertRaises(TypeError, getattr(errors, name))
            self.assertRaises(TypeError, getattr(errors, name), 1, 2)

    def test_each_is_caught_as_the_base_class_and_as_a_value_error(self):
        for base in (errors.SplitError, ValueError):
            for name in WITH_ARGUMENT:
                with self.assertRaises(base):
                    raise getattr(errors, name)(1)
            for name in WITHOUT_ARGUMENT:
                with self.assertRaises(base):
                    raise getattr(errors, name)()


if __name__ == "__main__":
    unittest.main()
