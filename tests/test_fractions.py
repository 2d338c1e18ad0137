"""Points 1 and 2: fractions and bounds."""

import itertools
import unittest
from fractions import Fraction
from math import gcd

from simplebetween.errors import BadFraction, BadNumber
from simplebetween.fractions import is_bound, is_fraction, is_less, lowest
from tests.samples import FRACTIONS, MOST, NO_BOUNDS, NO_FRACTIONS, NO_WHOLE_NUMBERS, refusal

# Rising, from nought to without end.
RISING = [
    (0, 1), (1, MOST), (1, MOST - 1), (1, 3), (1, 2), (MOST - 2, MOST - 1), (MOST - 1, MOST), (1, 1),
    (MOST, MOST - 1), (MOST - 1, MOST - 2), (3, 2), (2, 1), (22, 7), (MOST - 1, 1), (MOST, 1), (1, 0),
]


class IsFraction(unittest.TestCase):
    def test_fractions(self):
        for thing in FRACTIONS:
            with self.subTest(thing=thing):
                self.assertIs(is_fraction(thing), True)

    def test_what_is_none(self):
        for thing in NO_FRACTIONS:
            with self.subTest(thing=repr(thing)[:80]):
                self.assertIs(is_fraction(thing), False)

    def test_small_ones_are_told_by_their_common_divisors(self):
        for top, bottom in itertools.product(range(-2, 30), repeat=2):
            with self.subTest(top=top, bottom=bottom):
                told = top >= 1 and bottom >= 1 and gcd(top, bottom) == 1
                self.assertIs(is_fraction((top, bottom)), told)

    def test_a_great_common_divisor(self):
        self.assertIs(is_fraction((3 * (10 ** 59 + 1), 2 * (10 ** 59 + 1))), False)

    def test_a_list_that_holds_itself(self):
        thing = []
        thing.append(thing)
        self.assertIs(is_fraction(thing), False)


class IsBound(unittest.TestCase):
    def test_bounds(self):
        for thing in FRACTIONS + [(0, 1), (1, 0)]:
            with self.subTest(thing=thing):
                self.assertIs(is_bound(thing), True)

    def test_what_is_none(self):
        for thing in NO_BOUNDS:
            with self.subTest(thing=repr(thing)[:80]):
                self.assertIs(is_bound(thing), False)

    def test_small_ones_with_a_nought(self):
        for number in range(-3, 20):
            with self.subTest(number=number):
                self.assertIs(is_bound((0, number)), number == 1)
                self.assertIs(is_bound((number, 0)), number == 1)


class IsLess(unittest.TestCase):
    def test_rising_ones_both_ways_about(self):
        for low, high in itertools.combinations(RISING, 2):
            with self.subTest(low=low, high=high):
                self.assertIs(is_less(low, high), True)
                self.assertIs(is_less(high, low), False)

    def test_none_is_less_than_itself(self):
        for bound in RISING:
            with self.subTest(bound=bound):
                self.assertIs(is_less(bound, bound), False)

    def test_small_ones_as_their_values_are(self):
        small = [(p, q) for p in range(1, 9) for q in range(1, 9) if gcd(p, q) == 1]
        for one, other in itertools.product(small, repeat=2):
            with self.subTest(one=one, other=other):
                self.assertIs(is_less(one, other), Fraction(*one) < Fraction(*other))

    def test_bad_fraction_at_either_place(self):
        for thing in NO_BOUNDS:
            for bound in ((0, 1), (1, 2), (1, 0)):
                with self.subTest(thing=repr(thing)[:80], bound=bound):
                    self.assertIs(refusal(is_less, thing, bound), BadFraction)
                    self.assertIs(refusal(is_less, bound, thing), BadFraction)
            with self.subTest(thing=repr(thing)[:80]):
                self.assertIs(refusal(is_less, thing, thing), BadFraction)


class Lowest(unittest.TestCase):
    def test_in_lowest_terms(self):
        for top, bottom in itertools.product(range(1, 30), repeat=2):
            with self.subTest(top=top, bottom=bottom):
                value = Fraction(top, bottom)
                self.assertEqual(lowest(top, bottom), (value.numerator, value.denominator))

    def test_a_top_of_0_is_nought(self):
        for bottom in (1, 2, 10, MOST - 1, MOST):
            with self.subTest(bottom=bottom):
                self.assertEqual(lowest(0, bottom), (0, 1))

    def test_at_the_ends_of_the_bounds(self):
        self.assertEqual(lowest(1, 1), (1, 1))
        self.assertEqual(lowest(MOST, 1), (MOST, 1))
        self.assertEqual(lowest(1, MOST), (1, MOST))
        self.assertEqual(lowest(MOST, MOST), (1, 1))
        self.assertEqual(lowest(MOST, MOST - 1), (MOST, MOST - 1))
        self.assertEqual(lowest(MOST, MOST - 2), (MOST // 2, MOST // 2 - 1))

    def test_told_are_tuples_of_whole_numbers(self):
        for told in (lowest(6, 4), lowest(0, 4), lowest(4, 4)):
            self.assertIs(type(told), tuple)
            self.assertEqual([type(part) for part in told], [int, int])

    def test_bad_number_just_beyond(self):
        for top, bottom in ((-1, 1), (MOST + 1, 1), (1, 0), (0, 0), (1, -1), (1, MOST + 1), (0, MOST + 1), (-1, -1)):
            with self.subTest(top=top, bottom=bottom):
                self.assertIs(refusal(lowest, top, bottom), BadNumber)

    def test_bad_number_though_the_lowest_terms_would_be_small(self):
        self.assertIs(refusal(lowest, 2 * MOST, 2 * MOST), BadNumber)
        self.assertIs(refusal(lowest, 2 * MOST, MOST), BadNumber)
        self.assertIs(refusal(lowest, MOST, 2 * MOST), BadNumber)

    def test_bad_number_of_what_is_none(self):
        for thing in NO_WHOLE_NUMBERS + [10 ** 3000, -10 ** 3000]:
            with self.subTest(thing=repr(thing)[:80]):
                self.assertIs(refusal(lowest, thing, 1), BadNumber)
                self.assertIs(refusal(lowest, 1, thing), BadNumber)
                self.assertIs(refusal(lowest, thing, thing), BadNumber)


class HandedIn(unittest.TestCase):
    def test_lists_are_not_changed(self):
        for call in (is_fraction, is_bound, lambda thing: refusal(is_less, thing, (1, 1)),
                     lambda thing: refusal(lowest, thing, 1)):
            thing = [[1, 2], 3]
            call(thing)
            call((thing, 1))
            self.assertEqual(thing, [[1, 2], 3])
