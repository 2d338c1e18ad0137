"""Points 1 and 7: rows of all bounds up to (1, 1) with small bottoms."""

import copy
import unittest
from fractions import Fraction

from simplebetween import rows
from simplebetween.errors import BadFraction, BadNumber, NotThere
from simplebetween.fractions import is_bound, is_less
from simplebetween.rows import at_place, next_one, one_ahead, place_of, row_of, size_of
from tests.samples import MOST, NO_BOUNDS, NO_WHOLE_NUMBERS, refusal

NUMBERS = range(1, 61)
WRONG_NUMBERS = NO_WHOLE_NUMBERS + [0, -1, -60, 61, 62, MOST, MOST + 1, 10 ** 3000, -10 ** 3000]
OF_A_BOUND = (place_of, next_one, one_ahead)
SIZES = {1: 2, 2: 3, 20: 129, 60: 1103}


def by_trying(number):
    """The row, by trying all tops and bottoms."""
    values = {Fraction(top, bottom) for bottom in range(1, number + 1) for top in range(bottom + 1)}
    return [(value.numerator, value.denominator) for value in sorted(values)]


def beyond(number):
    """Bounds that are not in the row of the number."""
    return [
        (1, number + 1), (number, number + 1), (number + 1, number), (2, 1), (3, 2), (1, 0), (MOST, 1), (1, MOST),
        (MOST - 1, MOST), (2, 2 * number + 1), (60, 61), (1, 61),
    ]


class Rows(unittest.TestCase):
    def test_by_trying(self):
        for number in NUMBERS:
            with self.subTest(number=number):
                self.assertEqual(row_of(number), by_trying(number))

    def test_by_hand(self):
        self.assertEqual(row_of(1), [(0, 1), (1, 1)])
        self.assertEqual(row_of(2), [(0, 1), (1, 2), (1, 1)])
        self.assertEqual(row_of(3), [(0, 1), (1, 3), (1, 2), (2, 3), (1, 1)])
        self.assertEqual(row_of(4), [(0, 1), (1, 4), (1, 3), (1, 2), (2, 3), (3, 4), (1, 1)])
        self.assertEqual(
            row_of(5),
            [(0, 1), (1, 5), (1, 4), (1, 3), (2, 5), (1, 2), (3, 5), (2, 3), (3, 4), (4, 5), (1, 1)],
        )

    def test_two_next_to_one_another(self):
        for number in NUMBERS:
            row = row_of(number)
            for (p, q), (r, s) in zip(row, row[1:]):
                with self.subTest(number=number, one=(p, q), other=(r, s)):
                    self.assertEqual(r * q - p * s, 1)
                    self.assertIs(is_less((p, q), (r, s)), True)

    def test_told_kinds(self):
        for number in (1, 2, 7, 60):
            row = row_of(number)
            self.assertIs(type(row), list)
            for bound in row:
                self.assertIs(is_bound(bound), True)
                self.assertEqual([type(part) for part in bound], [int, int])

    def test_size(self):
        self.assertEqual([size_of(number) for number in range(1, 11)], [2, 3, 5, 7, 11, 13, 19, 23, 29, 33])
        for number in NUMBERS:
            with self.subTest(number=number):
                self.assertEqual(size_of(number), len(by_trying(number)))
                self.assertIs(type(size_of(number)), int)


class Places(unittest.TestCase):
    def test_all_places_of_a_row(self):
        for number in (1, 2, 3, 7, 20, 60):
            row = by_trying(number)
            for place, bound in enumerate(row):
                with self.subTest(number=number, place=place):
                    self.assertEqual(place_of(bound, number), place)
                    self.assertEqual(at_place(place, number), bound)
                    if place > 0:
                        self.assertEqual(one_ahead(bound, number), row[place - 1])
                    if place + 1 < len(row):
                        self.assertEqual(next_one(bound, number), row[place + 1])

    def test_the_first_and_the_last_place_of_all_rows(self):
        for number in NUMBERS:
            with self.subTest(number=number):
                last = size_of(number) - 1
                self.assertEqual(place_of((0, 1), number), 0)
                self.assertEqual(place_of((1, 1), number), last)
                self.assertEqual(at_place(0, number), (0, 1))
                self.assertEqual(at_place(last, number), (1, 1))
                self.assertEqual(next_one((0, 1), number), (1, number))
                self.assertEqual(one_ahead((1, 1), number), (number - 1, number))

    def test_between(self):
        self.assertEqual(place_of((1, 2), 5), 5)
        self.assertEqual(at_place(5, 5), (1, 2))
        self.assertEqual(next_one((1, 2), 5), (3, 5))
        self.assertEqual(one_ahead((1, 2), 5), (2, 5))
        self.assertEqual(next_one((1, 2), 60), (30, 59))
        self.assertEqual(one_ahead((1, 2), 60), (29, 59))

    def test_told_kinds(self):
        self.assertIs(type(place_of((0, 1), 1)), int)
        for told in (at_place(0, 5), next_one((0, 1), 5), one_ahead((1, 1), 5)):
            self.assertIs(type(told), tuple)
            self.assertEqual([type(part) for part in told], [int, int])


class Ends(unittest.TestCase):
    """Both ends of some rows, the least and the greatest among them, as each function tells them."""

    def test_row_of_and_size_of(self):
        for number, size in SIZES.items():
            with self.subTest(number=number):
                row = row_of(number)
                self.assertEqual(row[:2], [(0, 1), (1, number)])
                self.assertEqual(row[-2:], [(number - 1, number), (1, 1)])
                self.assertEqual(len(row), size)
                self.assertEqual(size_of(number), size)

    def test_place_of(self):
        for number, size in SIZES.items():
            with self.subTest(number=number):
                self.assertEqual(place_of((0, 1), number), 0)
                self.assertEqual(place_of((1, number), number), 1)
                self.assertEqual(place_of((number - 1, number), number), size - 2)
                self.assertEqual(place_of((1, 1), number), size - 1)

    def test_at_place(self):
        for number, size in SIZES.items():
            with self.subTest(number=number):
                self.assertEqual(at_place(0, number), (0, 1))
                self.assertEqual(at_place(1, number), (1, number))
                self.assertEqual(at_place(size - 2, number), (number - 1, number))
                self.assertEqual(at_place(size - 1, number), (1, 1))
                for place in (-1, -size, size, size + 1):
                    self.assertIs(refusal(at_place, place, number), NotThere)

    def test_next_one(self):
        for number in SIZES:
            with self.subTest(number=number):
                self.assertEqual(next_one((0, 1), number), (1, number))
                self.assertEqual(next_one((number - 1, number), number), (1, 1))
                self.assertIs(refusal(next_one, (1, 1), number), NotThere)

    def test_one_ahead(self):
        for number in SIZES:
            with self.subTest(number=number):
                self.assertEqual(one_ahead((1, 1), number), (number - 1, number))
                self.assertEqual(one_ahead((1, number), number), (0, 1))
                self.assertIs(refusal(one_ahead, (0, 1), number), NotThere)

    def test_beside_the_middle(self):
        for number in (2, 20, 60):
            half = SIZES[number] // 2
            odd = number - 1 + number % 2
            beside = [(odd // 2, odd), (1, 2), (odd // 2 + 1, odd)]
            with self.subTest(number=number):
                self.assertEqual([at_place(place, number) for place in (half - 1, half, half + 1)], beside)
                self.assertEqual([place_of(bound, number) for bound in beside], [half - 1, half, half + 1])
                self.assertEqual(row_of(number)[half - 1:half + 2], beside)
                self.assertEqual([one_ahead((1, 2), number), (1, 2), next_one((1, 2), number)], beside)


class LikeTheList(unittest.TestCase):
    """What is told without the list is just what the list says."""

    def test_all_places_of_the_rows_of_1_to_12(self):
        for number in range(1, 13):
            row = row_of(number)
            self.assertEqual(size_of(number), len(row))
            for place, bound in enumerate(row):
                with self.subTest(number=number, place=place):
                    self.assertEqual(place_of(bound, number), place)
                    self.assertEqual(at_place(place, number), bound)
                    if place > 0:
                        self.assertEqual(one_ahead(bound, number), row[place - 1])
                    else:
                        self.assertIs(refusal(one_ahead, bound, number), NotThere)
                    if place + 1 < len(row):
                        self.assertEqual(next_one(bound, number), row[place + 1])
                    else:
                        self.assertIs(refusal(next_one, bound, number), NotThere)

    def test_all_bounds_with_small_tops_and_bottoms_that_are_not_in_the_list(self):
        small = [(top, bottom) for top in range(16) for bottom in range(16) if is_bound((top, bottom))]
        for number in range(1, 13):
            row = row_of(number)
            for bound in small:
                if bound not in row:
                    with self.subTest(number=number, bound=bound):
                        for call in OF_A_BOUND:
                            self.assertIs(refusal(call, bound, number), NotThere)


class NotInTheRow(unittest.TestCase):
    """Bounds that some rows, the least and the greatest among them, do not have."""

    def told_by_none(self, outside):
        for number in SIZES:
            row = row_of(number)
            told = [at_place(place, number) for place in range(size_of(number))]
            for bound in outside(number):
                with self.subTest(number=number, bound=bound):
                    self.assertIs(is_bound(bound), True)
                    self.assertNotIn(bound, row)
                    self.assertNotIn(bound, told)
                    for call in OF_A_BOUND:
                        self.assertIs(refusal(call, bound, number), NotThere)

    def test_a_bottom_that_is_too_great(self):
        self.told_by_none(lambda number: [
            (1, number + 1), (number, number + 1), (2, 2 * number + 1), (number, 2 * number + 1), (60, 61), (1, MOST),
            (MOST - 1, MOST),
        ])

    def test_a_top_above_the_bottom(self):
        self.told_by_none(lambda number: [
            (2, 1), (3, 2), (number + 1, 1), (number + 1, number), (61, 60), (MOST, 1), (MOST, MOST - 1),
        ])

    def test_without_end(self):
        self.told_by_none(lambda number: [(1, 0)])


class Refused(unittest.TestCase):
    def test_bad_number(self):
        for number in WRONG_NUMBERS:
            with self.subTest(number=repr(number)[:80]):
                self.assertIs(refusal(row_of, number), BadNumber)
                self.assertIs(refusal(size_of, number), BadNumber)
                for bound in ((0, 1), (1, 1), (1, 2)):
                    for call in OF_A_BOUND:
                        self.assertIs(refusal(call, bound, number), BadNumber)
                for place in (0, 1, 5):
                    self.assertIs(refusal(at_place, place, number), BadNumber)

    def test_bad_fraction(self):
        for thing in NO_BOUNDS + [[], [("L", 1)], 0, 1, 7]:
            for number in (1, 7, 60):
                with self.subTest(thing=repr(thing)[:80], number=number):
                    for call in OF_A_BOUND:
                        self.assertIs(refusal(call, thing, number), BadFraction)

    def test_bad_fraction_ahead_of_bad_number(self):
        for number in WRONG_NUMBERS:
            for thing in ((2, 4), (0, 2), (True, 2), (False, True), (0, 0), None, "1/2", [0, 1], 1):
                with self.subTest(thing=repr(thing)[:80], number=repr(number)[:80]):
                    for call in OF_A_BOUND:
                        self.assertIs(refusal(call, thing, number), BadFraction)

    def test_bad_number_ahead_of_not_there(self):
        for number in WRONG_NUMBERS:
            with self.subTest(number=repr(number)[:80]):
                for bound in beyond(60):
                    for call in OF_A_BOUND:
                        self.assertIs(refusal(call, bound, number), BadNumber)
                self.assertIs(refusal(next_one, (1, 1), number), BadNumber)
                self.assertIs(refusal(one_ahead, (0, 1), number), BadNumber)
                for place in NO_WHOLE_NUMBERS + [-1, MOST, 10 ** 3000]:
                    self.assertIs(refusal(at_place, place, number), BadNumber)

    def test_not_there_of_a_bound_that_is_not_in_the_row(self):
        for number in NUMBERS:
            for bound in beyond(number):
                with self.subTest(number=number, bound=bound):
                    for call in OF_A_BOUND:
                        self.assertIs(refusal(call, bound, number), NotThere)

    def test_not_there_at_the_ends(self):
        for number in NUMBERS:
            with self.subTest(number=number):
                self.assertIs(refusal(next_one, (1, 1), number), NotThere)
                self.assertIs(refusal(one_ahead, (0, 1), number), NotThere)

    def test_not_there_of_what_is_no_place(self):
        for number in (1, 2, 7, 60):
            size = size_of(number)
            beside = [-1, -2, -size, size, size + 1, MOST, MOST + 1, 10 ** 3000, -10 ** 3000]
            for place in NO_WHOLE_NUMBERS + [[]] + beside:
                with self.subTest(number=number, place=repr(place)[:80]):
                    self.assertIs(refusal(at_place, place, number), NotThere)


class AskersOwn(unittest.TestCase):
    def test_a_told_list_that_is_changed_changes_no_later_answer(self):
        for number in (1, 2, 7, 60):
            told = row_of(number)
            before = list(told)
            told.reverse()
            told.append((9, 1))
            self.assertEqual(row_of(number), before)
            told.clear()
            self.assertEqual(row_of(number), before)
            self.assertEqual(size_of(number), len(before))
            self.assertEqual(place_of((1, 1), number), len(before) - 1)
            self.assertEqual(at_place(0, number), (0, 1))
            self.assertEqual(next_one((0, 1), number), (1, number))
            self.assertEqual(one_ahead((1, 1), number), (number - 1, number))

    def test_a_told_list_is_not_changed_by_later_questions(self):
        told = row_of(3)
        row_of(4)
        self.assertIsNot(told, row_of(3))
        self.assertEqual(told, [(0, 1), (1, 3), (1, 2), (2, 3), (1, 1)])

    def test_lists_handed_in_are_not_changed(self):
        for thing in ([0, 1], [[0, 1], [1, 1]], []):
            kept = copy.deepcopy(thing)
            for call in OF_A_BOUND + (at_place,):
                refusal(call, thing, 5)
                refusal(call, (0, 1), thing)
                refusal(call, (thing, 1), 5)
            refusal(row_of, thing)
            refusal(size_of, thing)
            self.assertEqual(thing, kept)

    def test_nothing_is_kept_from_one_call_to_the_next(self):
        before = dict(vars(rows))
        for number in (1, 2, 7, 60):
            row_of(number)
            size_of(number)
            at_place(1, number)
            place_of((0, 1), number)
            next_one((0, 1), number)
            one_ahead((1, 1), number)
        self.assertEqual(vars(rows), before)
        for name, thing in before.items():
            if not name.startswith("__"):
                with self.subTest(name=name):
                    self.assertTrue(callable(thing) or type(thing) in (int, tuple))
