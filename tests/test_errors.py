"""The refusals and how they stand under one another."""

import unittest

from markscale import errors

NAMES = ("NoNumber", "NoDay", "NoTable", "NoPlan", "NoSpace", "NoTelling", "TooMany", "NoRow", "NoName")


class Refusals(unittest.TestCase):
    def test_mark_error_stands_straight_under_value_error(self):
        self.assertEqual(errors.MarkError.__bases__, (ValueError,))

    def test_each_stands_straight_under_mark_error_and_under_no_other(self):
        for name in NAMES:
            refusal = vars(errors)[name]
            self.assertEqual(refusal.__bases__, (errors.MarkError,), name)
            self.assertEqual(refusal.__name__, name)
            for other in NAMES:
                self.assertEqual(issubclass(refusal, vars(errors)[other]), name == other, (name, other))

    def test_fields_are_what_they_are_made_of(self):
        for row in (None, 0, 7, 60):
            self.assertIs(errors.NoTable(row).row, row)
        for step in (None, 0, 6):
            self.assertIs(errors.NoPlan(step).step, step)
        for part in (None, "steps", "sheet"):
            self.assertIs(errors.NoTelling(part).part, part)

    def test_the_others_are_made_of_a_text(self):
        for name in ("NoNumber", "NoDay", "NoSpace", "TooMany", "NoRow", "NoName"):
            self.assertEqual(str(vars(errors)[name]("so it is")), "so it is")

    def test_they_are_raised_and_taken_as_value_errors(self):
        for name in NAMES:
            with self.assertRaises(ValueError):
                raise vars(errors)[name]("x")


if __name__ == "__main__":
    unittest.main()
