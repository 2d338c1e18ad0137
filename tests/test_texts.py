"""Points 1 and 8: bounds and roads as texts."""

import copy
import itertools
import re
import unittest
from math import gcd

from simplebetween.errors import BadFraction, BadRoad, BadText, TooGreat
from simplebetween.fractions import is_bound
from simplebetween.roads import fraction_at, road_of
from simplebetween.texts import bound_text, read_bound, read_road, road_text
from tests.samples import FRACTIONS, GREAT, MOST, NO_BOUNDS, NO_ROADS, ODD_THINGS, refusal

ONE_AND_NOUGHTS = "1" + "0" * 60
NINES = "9" * 60

BOUNDS = {
    (0, 1): "0/1",
    (1, 0): "1/0",
    (1, 1): "1/1",
    (5, 7): "5/7",
    (22, 7): "22/7",
    (10, 100000001): "10/100000001",
    (MOST, 1): ONE_AND_NOUGHTS + "/1",
    (1, MOST): "1/" + ONE_AND_NOUGHTS,
    (MOST, MOST - 1): ONE_AND_NOUGHTS + "/" + NINES,
    (MOST - 1, MOST): NINES + "/" + ONE_AND_NOUGHTS,
}

ROADS = {
    ".": [],
    "L1": [("L", 1)],
    "R1": [("R", 1)],
    "L1 R20": [("L", 1), ("R", 20)],
    "R20 L1": [("R", 20), ("L", 1)],
    "R3 L6": [("R", 3), ("L", 6)],
    "L1 R2 L1": [("L", 1), ("R", 2), ("L", 1)],
    "L" + NINES: [("L", MOST - 1)],
    # From here on the fraction is too great.
    "R" + ONE_AND_NOUGHTS: [("R", MOST)],
    "L" + ONE_AND_NOUGHTS + " R1": [("L", MOST), ("R", 1)],
    " ".join(["R" + ONE_AND_NOUGHTS, "L" + ONE_AND_NOUGHTS] * 50): [("R", MOST), ("L", MOST)] * 50,
    " ".join(["L1", "R1"] * 1000): [("L", 1), ("R", 1)] * 1000,
}

WRONG_NUMBERS = [
    "", " ", "00", "01", "007", "0x1", "1_0", "1e1", "1.0", "+1", "-1", "--1", "+0", "-0", "1,000", "a", "I", "l", "O",
    " 1", "1 ", "1 1", "\n1", "1\n", "\r1", "1\r", "\t1", "1\t", "1\n\n", "'1'", "(1)", "1L", "one", ".", "1;",
    "2" + "0" * 60, "1" + "0" * 59 + "1", "1" + "0" * 61, "9" * 61, "9" * 62, "9" * 4000, "0" + ONE_AND_NOUGHTS,
    "0" * 61, "0" * 62 + "1",
]

NO_BOUND_TEXTS = [
    "", " ", "/", "//", "1", "1/", "/1", "1//1", "1/1/1", "1/1/", "/1/1", "1 1", "1:1", "1\\1", "1-1", "12", "(1, 1)",
    "(1,1)", "1,1", " 1/1", "1/1 ", "1 /1", "1/ 1", "1 / 1", "1/1\n", "\n1/1", "1\n/1", "1/\n1", "1/1\r\n", "1/1\r",
    "1/1\t", "1/1\n1/1", "1/1 1/1", "1/2 3/4", "0/0", "0/2", "2/0", "2/2", "2/4", "6/4", "10/100", "00/1", "0/01",
    "01/1", "1/01", "1/00", "1/2.", ".", "L1", "1/1.", "nought", "1/oo", "inf", ONE_AND_NOUGHTS + "/0",
    "0/" + ONE_AND_NOUGHTS, ONE_AND_NOUGHTS + "/" + ONE_AND_NOUGHTS, ONE_AND_NOUGHTS, "/" * 1000, "1/" * 1000,
]

NO_ROAD_TEXTS = [
    "", " ", "  ", "..", ". ", " .", ".\n", "\n.", ". .", ". L1", "L1 .", "L1.", ".L1", "L", "R", "L R", "1", "0", "1L",
    "L 1", "L1 ", " L1", "L1  R1", "L1\nR1", "L1\n", "\nL1", "L1\r\n", "L1\tR1", "L1R1", "L1,R1", "L1, R1", "L1/R1",
    "L1 R", "L1 1", "L R1", "l1", "r1", "A1", "LL1", "LL", "L1L", "LR1", "L1 L1", "R1 R1", "L1 L2", "R2 R1",
    "L1 R1 R1", "L1 R1 L1 L1", "L1 L1 R1", "L1 R1 L1 R1 R2", "L0", "R0", "L1 R0", "L0 R1", "L00", "L01", "L1 R01",
    "L-1", "L+1", "L1 R-1", "L1.0", "L1e1", "Lx", "[]", "()", "[('L', 1)]", "None", "1/1", "L1/1",
    "L" + "9" * 61, "L" + "1" + "0" * 61, "L1" + "0" * 59 + "1", "L0" + ONE_AND_NOUGHTS, "L1 R" + "9" * 61,
    "L1 " * 1000, " " * 1000, "L1 R1 " * 1000,
]

# What is no text. Of the odd things the texts are left to the lists above.
NO_TEXTS = [thing for thing in ODD_THINGS if not isinstance(thing, str)]
NO_TEXTS += [0, 1, 12, (1, 1), (0, 1), [], [("L", 1)], ["L1"], ["1/1"], ("L1",), ("1", "/", "1"), b"1/1", b"L1", b"."]
NO_TEXTS += [bytearray(b"1/1"), list("1/1"), list("."), {"1/1": 1}, {"."}]


def all_texts(signs, most):
    """All texts of at most so many of the signs."""
    for many in range(most + 1):
        for text in itertools.product(signs, repeat=many):
            yield "".join(text)


def bound_of(text):
    """The bound that is written so, None of a text that is none's: for small numbers only."""
    found = re.fullmatch("(0|[1-9][0-9]*)/(0|[1-9][0-9]*)", text)
    if not found:
        return None
    top, bottom = int(found[1]), int(found[2])
    return (top, bottom) if gcd(top, bottom) == 1 else None


def is_written_road(text):
    """Whether a road with small numbers is written so."""
    words = text.split(" ")
    steps = [word[:1] for word in words]
    in_turn = all(step != other for step, other in zip(steps, steps[1:]))
    return text == "." or in_turn and all(re.fullmatch("[LR][1-9][0-9]*", word) for word in words)


class Bounds(unittest.TestCase):
    def test_written_and_read(self):
        for bound, text in BOUNDS.items():
            with self.subTest(bound=bound):
                self.assertEqual(bound_text(bound), text)
                self.assertEqual(read_bound(text), bound)

    def test_back_and_forth(self):
        small = [(p, q) for p in range(31) for q in range(31) if gcd(p, q) == 1]
        for bound in small + FRACTIONS + GREAT:
            with self.subTest(bound=bound):
                text = bound_text(bound)
                self.assertEqual(text, str(bound[0]) + "/" + str(bound[1]))
                self.assertEqual(read_bound(text), bound)

    def test_all_short_texts(self):
        for text in all_texts("012/ .\n-", 5):
            told = bound_of(text)
            if told is None:
                self.assertIs(refusal(read_bound, text), BadText, repr(text))
            else:
                self.assertEqual(read_bound(text), told)

    def test_told_kinds(self):
        for bound, text in BOUNDS.items():
            self.assertIs(type(bound_text(bound)), str)
            told = read_bound(text)
            self.assertIs(is_bound(told), True)
            self.assertEqual([type(part) for part in told], [int, int])

    def test_bad_fraction(self):
        for thing in NO_BOUNDS + [[], [("L", 1)], 7]:
            with self.subTest(thing=repr(thing)[:80]):
                self.assertIs(refusal(bound_text, thing), BadFraction)

    def test_bad_text(self):
        for text in NO_BOUND_TEXTS:
            with self.subTest(text=text[:80]):
                self.assertIs(refusal(read_bound, text), BadText)

    def test_bad_text_of_a_wrong_number_at_either_place(self):
        for number in WRONG_NUMBERS:
            texts = (number + "/1", "1/" + number, number + "/" + number, number + "/7", "7/" + number, "0/" + number)
            for text in texts:
                with self.subTest(text=text[:80]):
                    self.assertIs(refusal(read_bound, text), BadText)

    def test_bad_text_of_what_is_no_text(self):
        for thing in NO_TEXTS:
            with self.subTest(thing=repr(thing)[:80]):
                self.assertIs(refusal(read_bound, thing), BadText)


class Roads(unittest.TestCase):
    def test_written_and_read(self):
        for text, road in ROADS.items():
            with self.subTest(text=text[:80]):
                self.assertEqual(road_text(road), text)
                self.assertEqual(read_road(text), road)

    def test_back_and_forth(self):
        for fraction in FRACTIONS + GREAT + [(p, q) for p in range(1, 31) for q in range(1, 31) if gcd(p, q) == 1]:
            with self.subTest(fraction=fraction):
                road = road_of(fraction)
                self.assertEqual(read_road(road_text(road)), road)
                self.assertEqual(fraction_at(read_road(road_text(road))), fraction)

    def test_a_road_whose_fraction_is_too_great(self):
        for road in ([("R", MOST)], [("L", MOST), ("R", MOST)], [("L", 1), ("R", 1)] * 300):
            with self.subTest(road=road[:2]):
                self.assertIs(refusal(fraction_at, road), TooGreat)
                self.assertEqual(read_road(road_text(road)), road)

    def test_all_short_texts(self):
        for text in all_texts("LR01 .\n", 6):
            if is_written_road(text):
                self.assertEqual(road_text(read_road(text)), text)
            else:
                self.assertIs(refusal(read_road, text), BadText, repr(text))

    def test_told_kinds(self):
        for text, road in ROADS.items():
            self.assertIs(type(road_text(road)), str)
            told = read_road(text)
            self.assertIs(type(told), list)
            for part in told:
                self.assertIs(type(part), tuple)
                self.assertEqual([type(thing) for thing in part], [str, int])

    def test_bad_road(self):
        for what, road in NO_ROADS.items():
            with self.subTest(what=what):
                self.assertIs(refusal(road_text, road), BadRoad)

    def test_bad_road_of_odd_things(self):
        for thing in ODD_THINGS:
            with self.subTest(thing=repr(thing)[:80]):
                self.assertIs(refusal(road_text, thing), BadRoad)
                self.assertIs(refusal(road_text, [thing]), BadRoad)
                self.assertIs(refusal(road_text, [("L", thing)]), BadRoad)
                self.assertIs(refusal(road_text, [(thing, 1)]), BadRoad)
                self.assertIs(refusal(road_text, [("L", 1), thing]), BadRoad)

    def test_bad_text(self):
        for text in NO_ROAD_TEXTS:
            with self.subTest(text=text[:80]):
                self.assertIs(refusal(read_road, text), BadText)

    def test_bad_text_of_a_wrong_number_in_any_word(self):
        for number in WRONG_NUMBERS + ["0"]:
            for text in ("L" + number, "R" + number, "L1 R" + number, "L" + number + " R1", "L1 R" + number + " L1"):
                with self.subTest(text=text[:80]):
                    self.assertIs(refusal(read_road, text), BadText)

    def test_bad_text_of_what_is_no_text(self):
        for thing in NO_TEXTS:
            with self.subTest(thing=repr(thing)[:80]):
                self.assertIs(refusal(read_road, thing), BadText)


class AskersOwn(unittest.TestCase):
    def test_a_told_road_that_is_changed_changes_no_later_answer(self):
        for text, road in (("L1 R20", [("L", 1), ("R", 20)]), (".", [])):
            told = read_road(text)
            told.append(("X", 0))
            told.reverse()
            self.assertEqual(read_road(text), road)
            told.clear()
            self.assertEqual(read_road(text), road)
            self.assertEqual(road_text(road), text)

    def test_nothing_hangs_on_a_road_later(self):
        road = [("L", 1)]
        told = road_text(road)
        road.append(("R", 20))
        self.assertEqual(told, "L1")
        self.assertEqual(road_text(road), "L1 R20")

    def test_lists_handed_in_are_not_changed(self):
        things = [[], [1, 2], [("L", 1), ("R", 2)], ["L1"], [["L", 1]]] + list(NO_ROADS.values())
        for thing in things:
            kept = copy.deepcopy(thing)
            for call in (bound_text, read_bound, road_text, read_road):
                refusal(call, thing)
                refusal(call, (thing, 1))
                refusal(call, [thing])
            self.assertEqual(thing, kept)
