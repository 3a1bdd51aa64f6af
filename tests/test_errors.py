"""The refusals, how they stand under one another."""

import unittest

from homeslopes import errors

NAMES = (
    "NoHill", "NoPage", "Twice", "NoNumber", "NoGoer", "NoPlace", "NoMoment", "NoWay", "TooLong", "NoText", "NoLine",
)


class Errors(unittest.TestCase):
    def test_hill_error_stands_straight_under_value_error(self):
        self.assertEqual(errors.HillError.__bases__, (ValueError,))

    def test_each_stands_straight_under_hill_error(self):
        for name in NAMES:
            self.assertEqual(getattr(errors, name).__bases__, (errors.HillError,), name)

    def test_none_stands_under_another_one(self):
        classes = [getattr(errors, name) for name in NAMES]
        self.assertEqual(len(set(classes)), 11)
        for one in classes:
            self.assertEqual([other for other in classes if issubclass(one, other)], [one])

    def test_each_bears_its_own_name(self):
        for name in NAMES + ("HillError",):
            self.assertEqual(getattr(errors, name).__name__, name)

    def test_each_is_made_with_a_text_and_taken_by_its_bases(self):
        for name in NAMES + ("HillError",):
            made = getattr(errors, name)("why it is so")
            self.assertEqual(str(made), "why it is so")
            with self.assertRaises(errors.HillError):
                raise made
            with self.assertRaises(ValueError):
                raise made


if __name__ == "__main__":
    unittest.main()
