"""Points 1 and 6: the low one, the high one and the nearest one."""

import copy
import time
import unittest
from fractions import Fraction
from math import gcd

from simplebetween.errors import BadFraction, BadNumber
from simplebetween.fractions import is_bound, is_less
from simplebetween.nearby import low_high, nearest
from simplebetween.roads import borders
from tests.samples import FRACTIONS, GREAT, MOST, NO_BOUNDS, NO_WHOLE_NUMBERS, refusal

SMALL = [(0, 1)] + [(p, q) for p in range(1, 16) for q in range(1, 16) if gcd(p, q) == 1]
ALL_GREAT = GREAT + FRACTIONS
WRONG_MOSTS = NO_WHOLE_NUMBERS + [0, -1, -MOST, MOST + 1, 10 ** 3000, -10 ** 3000]


def pair_of(value):
    return (value.numerator, value.denominator)


def by_trying(bound, most):
    """The low one and the high one, by trying all bottoms up to the most."""
    top, bottom = bound
    lows = [Fraction(top * other // bottom, other) for other in range(1, most + 1)]
    highs = [Fraction(-(-top * other // bottom), other) for other in range(1, most + 1)]
    return (pair_of(max(lows)), pair_of(min(highs)))


def nearest_of(bound, low, high):
    """The nearest one of the two, low one and high one, as the words of point 6 say."""
    way_to_low = Fraction(*bound) - Fraction(*low)
    way_to_high = Fraction(*high) - Fraction(*bound)
    return min((way_to_low, low[1], 0, low), (way_to_high, high[1], 1, high))[3]


def mosts_for(bound):
    """Numbers from 1 to 10 ** 60, those near the bottom of the bound among them."""
    bottom = bound[1]
    some = [1, 2, 3, 4, 5, 7, 10, 1000, 10 ** 30, 3 * 10 ** 30 + 1, bottom // 2, bottom // 2 + 1]
    some += [bottom - 1, bottom, bottom + 1, MOST // 2, MOST - 1, MOST]
    return [most for most in some if 1 <= most <= MOST]


class ByTrying(unittest.TestCase):
    def test_small_bounds(self):
        for bound in SMALL:
            for most in range(1, 19):
                with self.subTest(bound=bound, most=most):
                    told = by_trying(bound, most)
                    self.assertEqual(low_high(bound, most), told)
                    self.assertEqual(nearest(bound, most), nearest_of(bound, *told))

    def test_great_bounds_with_a_few(self):
        for bound in ALL_GREAT:
            for most in range(1, 12):
                with self.subTest(bound=bound, most=most):
                    told = by_trying(bound, most)
                    self.assertEqual(low_high(bound, most), told)
                    self.assertEqual(nearest(bound, most), nearest_of(bound, *told))

    def test_by_hand(self):
        self.assertEqual(low_high((22, 7), 6), ((3, 1), (19, 6)))
        self.assertEqual(nearest((22, 7), 6), (19, 6))
        self.assertEqual(low_high((355, 113), 10), ((25, 8), (22, 7)))
        self.assertEqual(nearest((355, 113), 10), (22, 7))
        self.assertEqual(low_high((5, 7), 5), ((2, 3), (3, 4)))
        self.assertEqual(nearest((5, 7), 5), (3, 4))

    def test_told_kinds(self):
        for bound, most in (((5, 7), 5), ((5, 7), 7), ((0, 1), 1), ((1, MOST), 1)):
            told = low_high(bound, most)
            self.assertIs(type(told), tuple)
            for one in told + (nearest(bound, most),):
                self.assertIs(is_bound(one), True)
                self.assertEqual([type(part) for part in one], [int, int])


class Great(unittest.TestCase):
    def test_none_with_a_small_bottom_lies_between_the_two(self):
        # Where the cross products are 1 apart, no bottom between is less than both together.
        for bound in ALL_GREAT:
            for most in mosts_for(bound):
                with self.subTest(bound=bound, most=most):
                    low, high = low_high(bound, most)
                    self.assertTrue(is_bound(low) and is_bound(high))
                    self.assertTrue(1 <= low[1] <= most and 1 <= high[1] <= most)
                    self.assertFalse(is_less(bound, low) or is_less(high, bound))
                    if bound[1] <= most:
                        self.assertEqual((low, high), (bound, bound))
                    else:
                        self.assertEqual(high[0] * low[1] - low[0] * high[1], 1)
                        self.assertGreater(low[1] + high[1], most)

    def test_the_nearest_of_the_two(self):
        for bound in ALL_GREAT:
            for most in mosts_for(bound):
                with self.subTest(bound=bound, most=most):
                    self.assertEqual(nearest(bound, most), nearest_of(bound, *low_high(bound, most)))

    def test_nearest_is_as_near_as_another_way_comes(self):
        for bound in ALL_GREAT:
            value = Fraction(*bound)
            for most in mosts_for(bound):
                with self.subTest(bound=bound, most=most):
                    way = abs(Fraction(*nearest(bound, most)) - value)
                    self.assertEqual(way, abs(value.limit_denominator(most) - value))

    def test_of_its_own_bottom_and_of_one_more(self):
        for bound in ALL_GREAT + SMALL:
            for most in {bound[1], min(bound[1] + 1, MOST), MOST}:
                with self.subTest(bound=bound, most=most):
                    self.assertEqual(low_high(bound, most), (bound, bound))
                    self.assertEqual(nearest(bound, most), bound)

    def test_of_one_less_it_is_between_its_borders(self):
        for bound in ALL_GREAT + SMALL:
            if bound[1] > 1:
                with self.subTest(bound=bound):
                    self.assertEqual(low_high(bound, bound[1] - 1), borders(bound))

    def test_of_1_they_are_whole(self):
        self.assertEqual(low_high((MOST, 3), 1), ((MOST // 3, 1), (MOST // 3 + 1, 1)))
        self.assertEqual(nearest((MOST, 3), 1), (MOST // 3, 1))
        self.assertEqual(nearest((MOST - 1, 4), 1), (MOST // 4, 1))
        self.assertEqual(low_high((1, MOST), 1), ((0, 1), (1, 1)))
        self.assertEqual(nearest((1, MOST), 1), (0, 1))
        self.assertEqual(nearest((MOST - 1, MOST), 1), (1, 1))
        self.assertEqual(low_high((MOST, 1), 1), ((MOST, 1), (MOST, 1)))
        self.assertEqual(low_high((MOST, MOST - 1), 1), ((1, 1), (2, 1)))

    def test_near_nought(self):
        self.assertEqual(low_high((1, MOST), MOST - 1), ((0, 1), (1, MOST - 1)))
        self.assertEqual(nearest((1, MOST), MOST - 1), (1, MOST - 1))
        self.assertEqual(nearest((1, MOST), MOST // 2 - 1), (0, 1))
        self.assertEqual(nearest((1, MOST), MOST // 2 + 1), (1, MOST // 2 + 1))

    def test_nought(self):
        for most in (1, 2, 3, 10 ** 30, MOST):
            with self.subTest(most=most):
                self.assertEqual(low_high((0, 1), most), ((0, 1), (0, 1)))
                self.assertEqual(nearest((0, 1), most), (0, 1))

    def test_at_once(self):
        # Of one step or one bottom after another none of these would ever end.
        start = time.monotonic()
        for bound in ALL_GREAT:
            for most in mosts_for(bound):
                nearest(bound, most)
        self.assertLess(time.monotonic() - start, 5)


class AsFar(unittest.TestCase):
    def test_the_lesser_bottom_where_it_is_the_low_one(self):
        self.assertEqual(low_high((1, 4), 2), ((0, 1), (1, 2)))
        self.assertEqual(nearest((1, 4), 2), (0, 1))
        self.assertEqual(nearest((5, 4), 2), (1, 1))
        # Between (1, 1) and (HALF + 1, HALF), and between (0, 1) and (1, HALF).
        half = MOST // 2
        self.assertEqual(nearest((MOST - 1, MOST - 2), half - 1), (1, 1))
        self.assertEqual(nearest((1, MOST), half), (0, 1))

    def test_the_lesser_bottom_where_it_is_the_high_one(self):
        self.assertEqual(low_high((3, 4), 2), ((1, 2), (1, 1)))
        self.assertEqual(nearest((3, 4), 2), (1, 1))
        self.assertEqual(nearest((7, 4), 2), (2, 1))
        half = MOST // 2
        self.assertEqual(low_high((MOST - 1, MOST), half), ((half - 1, half), (1, 1)))
        self.assertEqual(nearest((MOST - 1, MOST), half), (1, 1))

    def test_the_low_one_where_the_bottoms_are_alike(self):
        for whole in (0, 1, 2, 7, 10 ** 30, MOST // 2 - 1):
            with self.subTest(whole=whole):
                bound = (2 * whole + 1, 2)
                self.assertEqual(low_high(bound, 1), ((whole, 1), (whole + 1, 1)))
                self.assertEqual(nearest(bound, 1), (whole, 1))

    def test_a_little_beside_the_middle(self):
        odd = MOST - 1
        self.assertEqual(nearest((odd // 2, odd), 1), (0, 1))
        self.assertEqual(nearest((odd // 2 + 1, odd), 1), (1, 1))


class Refused(unittest.TestCase):
    def test_bad_fraction_of_what_is_no_bound(self):
        for thing in NO_BOUNDS + [(1, 0), [], [("L", 1)]]:
            for most in (1, 7, MOST):
                with self.subTest(thing=repr(thing)[:80], most=most):
                    self.assertIs(refusal(low_high, thing, most), BadFraction)
                    self.assertIs(refusal(nearest, thing, most), BadFraction)

    def test_bad_number(self):
        for most in WRONG_MOSTS:
            for bound in ((0, 1), (1, 1), (5, 7), (MOST, MOST - 1)):
                with self.subTest(most=repr(most)[:80], bound=bound):
                    self.assertIs(refusal(low_high, bound, most), BadNumber)
                    self.assertIs(refusal(nearest, bound, most), BadNumber)

    def test_bad_fraction_ahead_of_bad_number(self):
        for most in WRONG_MOSTS:
            for thing in ((1, 0), (2, 4), (True, 2), (1, most, 1), (0, 0), None, "1/2", [1, 2]):
                with self.subTest(most=repr(most)[:80], thing=repr(thing)[:80]):
                    self.assertIs(refusal(low_high, thing, most), BadFraction)
                    self.assertIs(refusal(nearest, thing, most), BadFraction)


class HandedIn(unittest.TestCase):
    def test_lists_are_not_changed(self):
        for call in (low_high, nearest):
            for thing in ([1, 2], [[0, 1], [1, 0]], []):
                kept = copy.deepcopy(thing)
                refusal(call, thing, 1)
                refusal(call, (1, 2), thing)
                refusal(call, (thing, 1), (1, thing))
                self.assertEqual(thing, kept)
