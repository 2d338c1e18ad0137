"""The refusals of the interface."""

import unittest

from simplebetween import errors

NAMES = ["BadFraction", "BadNumber", "BadOrder", "BadRoad", "BadText", "NotThere", "TooGreat"]


class Refusals(unittest.TestCase):
    def test_fraction_error_stands_straight_under_value_error(self):
        self.assertEqual(errors.FractionError.__bases__, (ValueError,))

    def test_each_other_one_stands_straight_under_fraction_error(self):
        for name in NAMES:
            with self.subTest(name=name):
                self.assertEqual(getattr(errors, name).__bases__, (errors.FractionError,))

    def test_they_are_defined_in_this_file(self):
        for name in NAMES + ["FractionError"]:
            with self.subTest(name=name):
                one = getattr(errors, name)
                self.assertEqual((one.__name__, one.__module__), (name, "simplebetween.errors"))

    def test_each_can_be_raised_and_caught_as_the_ones_above_it(self):
        for name in NAMES:
            with self.subTest(name=name):
                for above in (errors.FractionError, ValueError):
                    with self.assertRaises(above):
                        raise getattr(errors, name)("why")
