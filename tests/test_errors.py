"""The error classes."""

import inspect
import unittest

from opendeeds import errors
from opendeeds.errors import BadRows, DeedError

WITH_TEXT = (
    "BadBook BadDone BadState BadRun BadDeed BadShut BadSet BadSizes BadFamily BadCosts BadDays "
    "BadWeights BadPairs NotOrder BadRuns BadReach BadTree BadPoints BadSeen BadRefused BadLot "
    "NotYet BadNumber NothingToUndo Full BadCommand TooMany"
).split()


class Errors(unittest.TestCase):
    def test_deed_error_stands_under_value_error(self):
        self.assertEqual(DeedError.__bases__, (ValueError,))

    def test_each_other_one_stands_directly_under_deed_error(self):
        for name in [*WITH_TEXT, "BadRows"]:
            with self.subTest(name):
                self.assertEqual(getattr(errors, name).__bases__, (DeedError,))

    def test_there_are_no_other_ones(self):
        found = [name for name, thing in vars(errors).items() if inspect.isclass(thing)]
        self.assertEqual(sorted(found), sorted([*WITH_TEXT, "BadRows", "DeedError"]))

    def test_each_is_defined_in_its_file_under_its_name(self):
        for name in [*WITH_TEXT, "BadRows", "DeedError"]:
            made = getattr(errors, name)
            self.assertEqual((made.__module__, made.__name__), ("opendeeds.errors", name))

    def test_they_are_made_with_one_text(self):
        for name in [*WITH_TEXT, "DeedError"]:
            with self.subTest(name), self.assertRaises(DeedError) as caught:
                raise getattr(errors, name)("some text")
            self.assertEqual(str(caught.exception), "some text")

    def test_bad_rows_by_position(self):
        error = BadRows(3, 5)
        self.assertEqual((error.row, error.word), (3, 5))

    def test_bad_rows_by_name(self):
        error = BadRows(word=5, row=3)
        self.assertEqual((error.row, error.word), (3, 5))
        with self.assertRaises(ValueError) as caught:
            raise BadRows(8, word=0)
        self.assertEqual((caught.exception.row, caught.exception.word), (8, 0))

    def test_bad_rows_takes_both_fields(self):
        for told in ((), (1,), (1, 2, 3)):
            with self.assertRaises(TypeError):
                BadRows(*told)


if __name__ == "__main__":
    unittest.main()
