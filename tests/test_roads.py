"""Points 1, 3 and 4: roads."""

import copy
import itertools
import time
import unittest
from math import gcd

from simplebetween.errors import BadFraction, BadRoad, TooGreat
from simplebetween.fractions import is_bound, is_fraction, is_less
from simplebetween.roads import borders, fraction_at, road_of
from tests.samples import FRACTIONS, GREAT, MOST, NO_FRACTIONS, NO_ROADS, ODD_THINGS, refusal

SMALL = [(p, q) for p in range(1, 41) for q in range(1, 41) if gcd(p, q) == 1]


def step_by_step(steps):
    """The fraction and the borders behind a text of steps, one after another."""
    lower, upper = (0, 1), (1, 0)
    here = (1, 1)
    for step in steps:
        if step == "L":
            upper = here
        else:
            lower = here
        here = (lower[0] + upper[0], lower[1] + upper[1])
    return here, (lower, upper)


def road_from(steps):
    """The road of a text of steps."""
    return [(step, len(list(alike))) for step, alike in itertools.groupby(steps)]


def all_steps(most):
    """All texts of at most so many steps."""
    for many in range(most + 1):
        for steps in itertools.product("LR", repeat=many):
            yield "".join(steps)


class StepByStep(unittest.TestCase):
    def test_roads_of_few_steps(self):
        for steps in all_steps(9):
            with self.subTest(steps=steps):
                fraction, its_borders = step_by_step(steps)
                road = road_from(steps)
                self.assertEqual(fraction_at(road), fraction)
                self.assertEqual(road_of(fraction), road)
                self.assertEqual(borders(fraction), its_borders)

    def test_by_hand(self):
        self.assertEqual(road_of((1, 1)), [])
        self.assertEqual(fraction_at([]), (1, 1))
        self.assertEqual(borders((1, 1)), ((0, 1), (1, 0)))
        self.assertEqual(road_of((1, 2)), [("L", 1)])
        self.assertEqual(road_of((2, 1)), [("R", 1)])
        self.assertEqual(road_of((5, 7)), [("L", 1), ("R", 2), ("L", 1)])
        self.assertEqual(borders((5, 7)), ((2, 3), (3, 4)))
        self.assertEqual(road_of((22, 7)), [("R", 3), ("L", 6)])
        self.assertEqual(fraction_at([("R", 3), ("L", 6)]), (22, 7))
        self.assertEqual(borders((22, 7)), ((3, 1), (19, 6)))


class ThereAndBack(unittest.TestCase):
    def test_small_fractions(self):
        for fraction in SMALL:
            with self.subTest(fraction=fraction):
                self.assertEqual(fraction_at(road_of(fraction)), fraction)

    def test_great_fractions(self):
        for fraction in GREAT + FRACTIONS:
            with self.subTest(fraction=fraction):
                self.assertIs(is_fraction(fraction), True)
                self.assertEqual(fraction_at(road_of(fraction)), fraction)

    def test_roads_with_great_numbers(self):
        for road in (
            [("R", 10 ** 20), ("L", 10 ** 39)],
            [("L", 10 ** 20), ("R", 3), ("L", 10 ** 38)],
            [("L", 1), ("R", MOST - 2)],
            [("L", 1), ("R", 1)] * 70,
            [("R", 1), ("L", 2)] * 50,
        ):
            with self.subTest(road=road[:3]):
                self.assertEqual(road_of(fraction_at(road)), road)

    def test_told_kinds(self):
        for fraction in SMALL[:60] + GREAT:
            road = road_of(fraction)
            self.assertIs(type(road), list)
            for part in road:
                self.assertIs(type(part), tuple)
                self.assertEqual([type(thing) for thing in part], [str, int])
            self.assertIs(is_fraction(fraction_at(road)), True)
            self.assertIs(type(borders(fraction)), tuple)


class AtTheEnds(unittest.TestCase):
    def test_one_by_the_most(self):
        self.assertEqual(road_of((1, MOST)), [("L", MOST - 1)])
        self.assertEqual(fraction_at([("L", MOST - 1)]), (1, MOST))
        self.assertEqual(borders((1, MOST)), ((0, 1), (1, MOST - 1)))

    def test_the_most_by_one(self):
        self.assertEqual(road_of((MOST, 1)), [("R", MOST - 1)])
        self.assertEqual(fraction_at([("R", MOST - 1)]), (MOST, 1))
        self.assertEqual(borders((MOST, 1)), ((MOST - 1, 1), (1, 0)))

    def test_next_to_one(self):
        self.assertEqual(road_of((MOST, MOST - 1)), [("R", 1), ("L", MOST - 2)])
        self.assertEqual(borders((MOST, MOST - 1)), ((1, 1), (MOST - 1, MOST - 2)))
        self.assertEqual(road_of((MOST - 1, MOST)), [("L", 1), ("R", MOST - 2)])
        self.assertEqual(borders((MOST - 1, MOST)), ((MOST - 2, MOST - 1), (1, 1)))


class Borders(unittest.TestCase):
    def test_the_cross_product_is_1(self):
        for fraction in SMALL + GREAT + FRACTIONS:
            with self.subTest(fraction=fraction):
                (p, q), (r, s) = borders(fraction)
                self.assertEqual(r * q - p * s, 1)

    def test_the_fraction_is_their_middle_and_lies_between_them(self):
        for fraction in SMALL + GREAT + FRACTIONS:
            with self.subTest(fraction=fraction):
                lower, upper = borders(fraction)
                self.assertIs(is_bound(lower) and is_bound(upper), True)
                self.assertEqual((lower[0] + upper[0], lower[1] + upper[1]), fraction)
                self.assertIs(is_less(lower, fraction), True)
                self.assertIs(is_less(fraction, upper), True)


class Refused(unittest.TestCase):
    def test_bad_fraction(self):
        for thing in NO_FRACTIONS + [[], [("L", 1)]]:
            with self.subTest(thing=repr(thing)[:80]):
                self.assertIs(refusal(road_of, thing), BadFraction)
                self.assertIs(refusal(borders, thing), BadFraction)

    def test_bad_road(self):
        for what, road in NO_ROADS.items():
            with self.subTest(what=what):
                self.assertIs(refusal(fraction_at, road), BadRoad)

    def test_bad_road_of_odd_things(self):
        for thing in ODD_THINGS:
            with self.subTest(thing=repr(thing)[:80]):
                self.assertIs(refusal(fraction_at, thing), BadRoad)
                self.assertIs(refusal(fraction_at, [thing]), BadRoad)
                self.assertIs(refusal(fraction_at, [("L", thing)]), BadRoad)
                self.assertIs(refusal(fraction_at, [(thing, 1)]), BadRoad)
                self.assertIs(refusal(fraction_at, [("L", 1), thing]), BadRoad)

    def test_bad_road_also_where_the_fraction_would_be_too_great(self):
        for what, road in NO_ROADS.items():
            if not isinstance(road, list):
                continue
            for great in ([("R", MOST), ("L", MOST)], [("L", MOST), ("R", MOST)]):
                with self.subTest(what=what, great=great[0][0]):
                    self.assertIs(refusal(fraction_at, great + road), BadRoad)
                    self.assertIs(refusal(fraction_at, road + great), BadRoad)
        self.assertIs(refusal(fraction_at, [("R", MOST), ("R", MOST)]), BadRoad)

    def test_a_list_that_holds_itself(self):
        road = []
        road.append(road)
        self.assertIs(refusal(fraction_at, road), BadRoad)

    def test_too_great(self):
        for road in (
            [("R", MOST)],
            [("L", MOST)],
            [("R", MOST - 1), ("L", 1)],
            [("L", MOST - 1), ("R", 1)],
            [("R", 1), ("L", MOST - 1)],
            [("L", 1), ("R", MOST - 1)],
            [("R", 10 ** 30), ("L", 10 ** 30)],
            [("R", MOST), ("L", MOST), ("R", MOST)],
            [("L", 1), ("R", 1)] * 200,
        ):
            with self.subTest(road=road[:3]):
                self.assertIs(refusal(fraction_at, road), TooGreat)

    def test_just_not_too_great(self):
        self.assertEqual(fraction_at([("R", 1), ("L", MOST - 2)]), (MOST, MOST - 1))
        self.assertEqual(fraction_at([("R", MOST - 1)]), (MOST, 1))
        self.assertEqual(fraction_at([("L", MOST - 1)]), (1, MOST))

    def test_too_great_in_the_one_of_both_alone(self):
        # (MOST + 1, 2) and (2, MOST + 1): the other part is small.
        half = MOST // 2
        self.assertEqual(fraction_at([("R", half - 1), ("L", 1)]), (MOST - 1, 2))
        self.assertIs(refusal(fraction_at, [("R", half), ("L", 1)]), TooGreat)
        self.assertEqual(fraction_at([("L", half - 1), ("R", 1)]), (2, MOST - 1))
        self.assertIs(refusal(fraction_at, [("L", half), ("R", 1)]), TooGreat)


class AskersOwn(unittest.TestCase):
    def test_a_told_list_that_is_changed_changes_no_later_answer(self):
        for fraction in ((1, 1), (5, 7), (22, 7), (MOST, 1)):
            told = road_of(fraction)
            before = list(told)
            told.append(("X", 0))
            told.reverse()
            self.assertEqual(road_of(fraction), before)
            told.clear()
            self.assertEqual(road_of(fraction), before)
            self.assertEqual(fraction_at(before), fraction)

    def test_a_told_list_is_not_changed_by_later_questions(self):
        told = road_of((5, 7))
        again = road_of((5, 7))
        road_of((22, 7))
        self.assertIsNot(told, again)
        self.assertEqual(told, [("L", 1), ("R", 2), ("L", 1)])

    def test_a_road_handed_in_is_not_changed(self):
        roads = [[], [("L", 1), ("R", 2)], [("R", MOST)]] + [NO_ROADS[what] for what in NO_ROADS]
        for road in roads:
            kept = copy.deepcopy(road)
            refusal(fraction_at, road)
            self.assertEqual(road, kept)

    def test_nothing_hangs_on_a_road_later(self):
        road = [("L", 1), ("R", 2)]
        told = fraction_at(road)
        road.append(("L", 1))
        self.assertEqual(told, (3, 4))
        self.assertEqual(fraction_at(road), (5, 7))
        road.pop()
        self.assertEqual(fraction_at(road), (3, 4))


class AtOnce(unittest.TestCase):
    def test_roads_with_a_great_number_of_steps_or_tuples(self):
        # Of one step after another none of these would ever end.
        start = time.monotonic()
        refusal(fraction_at, [("R", MOST), ("L", MOST)] * 10000)
        for fraction in GREAT:
            borders(fraction)
        self.assertLess(time.monotonic() - start, 5)
