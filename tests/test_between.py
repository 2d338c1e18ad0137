"""Points 1 and 5: the simplest fraction between two bounds."""

import copy
import itertools
import random
import time
import unittest
from fractions import Fraction
from math import gcd

from simplebetween.between import simplest
from simplebetween.errors import BadFraction, BadOrder, TooGreat
from simplebetween.fractions import is_fraction, is_less
from simplebetween.roads import borders
from tests.samples import FRACTIONS, GREAT, MOST, NO_BOUNDS, refusal

NOUGHT = (0, 1)
WITHOUT_END = (1, 0)
SMALL = [NOUGHT, WITHOUT_END] + [(p, q) for p in range(1, 13) for q in range(1, 13) if gcd(p, q) == 1]


def great_ones():
    """Fractions near the bounds, some of them by chance, though always by the same one."""
    chance = random.Random(5)
    found = list(GREAT)
    for _ in range(40):
        value = Fraction(chance.randint(MOST - 10 ** 40, MOST), chance.randint(MOST - 10 ** 50, MOST))
        found.append((value.numerator, value.denominator))
    return found


def rising_pairs(bounds):
    return [(one, other) for one, other in itertools.permutations(bounds, 2) if is_less(one, other)]


def by_trying(one, other):
    """The simplest one, by trying all bottoms from 1 on."""
    for bottom in itertools.count(1):
        # The least top that makes it greater than the one.
        top = one[0] * bottom // one[1] + 1
        if top * other[1] < other[0] * bottom:
            return (top, bottom)


def by_floors(one, other):
    """The simplest one between two bounds: the whole number above the one, or what lies between the rests."""
    whole = one[0] // one[1]
    if (whole + 1) * other[1] < other[0]:
        return (whole + 1, 1)
    bottom, top = by_floors((other[1], other[0] - whole * other[1]), (one[1], one[0] - whole * one[1]))
    return (top + whole * bottom, bottom)


class ByTrying(unittest.TestCase):
    def test_small_bounds(self):
        for one, other in rising_pairs(SMALL):
            with self.subTest(one=one, other=other):
                self.assertEqual(simplest(one, other), by_trying(one, other))

    def test_by_hand(self):
        self.assertEqual(simplest(NOUGHT, WITHOUT_END), (1, 1))
        self.assertEqual(simplest((1, 2), (1, 1)), (2, 3))
        self.assertEqual(simplest((1, 3), (1, 1)), (1, 2))
        self.assertEqual(simplest((5, 2), (9, 2)), (3, 1))
        self.assertEqual(simplest((3, 1), (22, 7)), (25, 8))
        self.assertEqual(simplest((333, 106), (22, 7)), (355, 113))

    def test_of_one_bottom_the_least_top(self):
        self.assertEqual(simplest((2, 1), (100, 1)), (3, 1))
        self.assertEqual(simplest((1, 2), (MOST, 1)), (1, 1))
        self.assertEqual(simplest((MOST // 3, 1), (MOST, 1)), (MOST // 3 + 1, 1))

    def test_told_is_a_fraction_of_whole_numbers(self):
        for one, other in rising_pairs(SMALL[:20]):
            told = simplest(one, other)
            self.assertIs(is_fraction(told), True)
            self.assertEqual([type(part) for part in told], [int, int])


class Great(unittest.TestCase):
    def test_against_another_way(self):
        too_great = 0
        for one, other in rising_pairs([NOUGHT, WITHOUT_END, (1, 1), (1, 2), (3, 2)] + great_ones()):
            with self.subTest(one=one, other=other):
                found = by_floors(one, other)
                if max(found) > MOST:
                    too_great += 1
                    self.assertIs(refusal(simplest, one, other), TooGreat)
                else:
                    self.assertEqual(simplest(one, other), found)
        self.assertGreater(too_great, 0)

    def test_its_borders_do_not_lie_between_the_two(self):
        # So no fraction ahead of it on its road does, and it is the simplest.
        for one, other in rising_pairs(FRACTIONS):
            if refusal(simplest, one, other) is TooGreat:
                continue
            with self.subTest(one=one, other=other):
                found = simplest(one, other)
                lower, upper = borders(found)
                self.assertTrue(is_less(one, found) and is_less(found, other))
                self.assertFalse(is_less(one, lower) or is_less(upper, other))

    def test_nought_as_the_one_and_without_end_as_the_other(self):
        self.assertEqual(simplest(NOUGHT, (MOST, 1)), (1, 1))
        self.assertEqual(simplest(NOUGHT, (MOST, MOST - 1)), (1, 1))
        self.assertEqual(simplest(NOUGHT, (MOST - 1, MOST)), (1, 2))
        self.assertEqual(simplest(NOUGHT, (1, MOST - 1)), (1, MOST))
        self.assertEqual(simplest(NOUGHT, (7, MOST)), (1, MOST // 7 + 1))
        self.assertEqual(simplest((MOST - 1, 1), WITHOUT_END), (MOST, 1))
        self.assertEqual(simplest((MOST, 7), WITHOUT_END), (MOST // 7 + 1, 1))
        self.assertEqual(simplest((1, MOST), WITHOUT_END), (1, 1))
        self.assertEqual(simplest((1, 1), WITHOUT_END), (2, 1))

    def test_between_two_whose_cross_products_are_1_apart(self):
        for fraction in GREAT + FRACTIONS + SMALL[2:]:
            with self.subTest(fraction=fraction):
                lower, upper = borders(fraction)
                self.assertEqual(simplest(lower, upper), fraction)

    def test_just_beyond_the_borders(self):
        half = MOST // 2
        self.assertEqual(simplest((half - 2, half - 1), (1, 1)), (half - 1, half))
        self.assertEqual(simplest((MOST - 2, MOST - 1), (1, 1)), (MOST - 1, MOST))
        self.assertEqual(simplest((1, 1), (MOST - 1, MOST - 2)), (MOST, MOST - 1))
        self.assertEqual(simplest((1, MOST), (1, MOST - 2)), (1, MOST - 1))
        self.assertEqual(simplest((MOST - 2, 1), (MOST, 1)), (MOST - 1, 1))

    def test_at_once(self):
        # Of one step or one bottom after another none of these would ever end.
        start = time.monotonic()
        for one, other in rising_pairs(great_ones()):
            refusal(simplest, one, other)
        self.assertLess(time.monotonic() - start, 5)


class Refused(unittest.TestCase):
    def test_too_great(self):
        for one, other in (
            ((MOST, 1), WITHOUT_END),
            (NOUGHT, (1, MOST)),
            ((MOST - 1, MOST), (1, 1)),
            ((1, 1), (MOST, MOST - 1)),
            ((MOST - 1, 1), (MOST, 1)),
            ((1, MOST), (1, MOST - 1)),
            ((MOST - 2, MOST - 1), (MOST - 1, MOST)),
            ((MOST, MOST - 1), (MOST - 1, MOST - 2)),
        ):
            with self.subTest(one=one, other=other):
                self.assertIs(refusal(simplest, one, other), TooGreat)

    def test_too_great_in_the_one_of_both_alone(self):
        half = MOST // 2
        # Between the two come (MOST + 1, 2) and (2, MOST + 1).
        self.assertIs(refusal(simplest, (half, 1), (half + 1, 1)), TooGreat)
        self.assertEqual(simplest((half - 1, 1), (half, 1)), (MOST - 1, 2))
        self.assertIs(refusal(simplest, (1, half + 1), (1, half)), TooGreat)
        self.assertEqual(simplest((1, half), (1, half - 1)), (2, MOST - 1))

    def test_bad_order_of_two_alike(self):
        for bound in SMALL + FRACTIONS + GREAT:
            with self.subTest(bound=bound):
                self.assertIs(refusal(simplest, bound, bound), BadOrder)

    def test_bad_order_of_a_greater_one_ahead_of_a_less(self):
        for one, other in rising_pairs([NOUGHT, WITHOUT_END] + FRACTIONS + SMALL[:20]):
            with self.subTest(one=one, other=other):
                self.assertIs(refusal(simplest, other, one), BadOrder)

    def test_bad_order_ahead_of_too_great(self):
        self.assertIs(refusal(simplest, WITHOUT_END, (MOST, 1)), BadOrder)
        self.assertIs(refusal(simplest, (1, MOST), NOUGHT), BadOrder)
        self.assertIs(refusal(simplest, (1, 1), (MOST - 1, MOST)), BadOrder)

    def test_bad_fraction_at_either_place_and_ahead_of_bad_order(self):
        for thing in NO_BOUNDS + [[], [("L", 1)]]:
            with self.subTest(thing=repr(thing)[:80]):
                for bound in (NOUGHT, (1, 2), (MOST, 1), WITHOUT_END):
                    self.assertIs(refusal(simplest, thing, bound), BadFraction)
                    self.assertIs(refusal(simplest, bound, thing), BadFraction)
                self.assertIs(refusal(simplest, thing, thing), BadFraction)


class HandedIn(unittest.TestCase):
    def test_lists_are_not_changed(self):
        for thing in ([1, 2], [[0, 1], [1, 0]], []):
            kept = copy.deepcopy(thing)
            refusal(simplest, thing, (1, 0))
            refusal(simplest, (0, 1), thing)
            refusal(simplest, (thing, 1), (1, thing))
            self.assertEqual(thing, kept)
