"""Values that more than one test hands in."""

MOST = 10 ** 60


class LikeAll:
    """Says of itself that it equals all, and is neither less nor greater."""

    def __eq__(self, other):
        return True

    def __lt__(self, other):
        return False

    __hash__ = object.__hash__
    __gt__ = __lt__
    __le__ = __ge__ = __eq__


class LikeNone:
    """Refuses to be compared."""

    def __eq__(self, other):
        raise RuntimeError("not to be compared")

    __hash__ = object.__hash__
    __lt__ = __gt__ = __le__ = __ge__ = __eq__


# Of no kind that the program takes anywhere.
ODD_THINGS = [
    None, True, False, 1.5, 2.0, float("inf"), float("nan"), 1j, "", "1", "1/2", "L1", ".", "LR", "ab",
    b"", b"12", {}, {1: 2}, {1: 2, 3: 4}, set(), {1, 2}, frozenset({1, 2}), range(1, 3),
    object(), LikeAll(), LikeNone(), len, int, ValueError("1"), (), ((),), ((), ()), (1, 2, 3), (1,), [1, 2], [[1, 2]],
]

# Tuples of two, each with a part that no bound has.
_WRONG_PAIRS = [
    (True, 2), (2, True), (True, True), (False, 1), (0, True), (False, True), (True, False), (1, False), (True, 0),
    (1.0, 2), (1, 2.0), (0.0, 1), (1, 0.0), (float("nan"), 1), ("1", 2), (1, "2"), ("1", "2"), ("L", 1),
    (None, 1), (1, None), ([1], 2), (1, [2]), ((1,), 2), (1, (2,)), (b"1", 2), ({}, 1), (1, object()),
    (LikeAll(), 1), (1, LikeAll()), (LikeAll(), LikeAll()), (LikeNone(), 1), (1, LikeNone()),
    (-1, 2), (1, -2), (-1, -2), (0, -1), (-1, 0), (0, 0), (0, 2), (2, 0), (0, MOST), (MOST, 0),
    (2, 4), (2, 2), (6, 4), (MOST, MOST), (MOST, 2), (5, MOST), (10 ** 30, 10 ** 31),
    (MOST + 1, 1), (1, MOST + 1), (MOST + 1, MOST), (MOST, MOST + 1), (MOST + 1, 0), (0, MOST + 1),
    (10 ** 3000, 1), (1, 10 ** 3000), (-10 ** 3000, 1),
]

NO_BOUNDS = ODD_THINGS + _WRONG_PAIRS
NO_FRACTIONS = NO_BOUNDS + [(0, 1), (1, 0)]

FRACTIONS = [
    (1, 1), (1, 2), (2, 1), (3, 2), (5, 7), (22, 7), (355, 113), (1, MOST), (MOST, 1),
    (MOST, MOST - 1), (MOST - 1, MOST), (MOST, 3), (7, MOST), (2 ** 199, 3 ** 125),
]

NO_WHOLE_NUMBERS = ODD_THINGS + [(1, 2), "7", b"7", [7], 7.0, -7.0]


def neighbours():
    """The last two within the bounds of 1, 1, 2, 3, 5 ..: all tuples of their road but the last are of 1 step."""
    low, high = 1, 1
    while low + high <= MOST:
        low, high = high, low + high
    return low, high


GREAT = [
    (2 ** 199, 3 ** 125), (3 ** 125, 2 ** 199), (10 ** 59 + 9, MOST - 7), (MOST, MOST - 1), (MOST - 1, MOST),
    (MOST - 1, MOST // 2), (MOST // 2, MOST - 1), (MOST - 1, MOST - 2), (MOST - 3, 10 ** 30 + 1), (MOST, 7),
    (7, MOST), (10 ** 30 + 1, MOST - 3), neighbours(), neighbours()[::-1],
]

# Each is no road: what it breaks stands at its key.
NO_ROADS = {
    "another step": [("A", 1)],
    "a small step": [("r", 1)],
    "no step": [("", 1)],
    "both steps": [("LR", 1)],
    "a step as bytes": [(b"L", 1)],
    "a number for a step": [(1, 1)],
    "None for a step": [(None, 1)],
    "a truth for a step": [(True, 1)],
    "a list for a step": [(["L"], 1)],
    "a tuple for a step": [(("L",), 1)],
    "none of them": [("L", 0)],
    "fewer than none": [("R", -1)],
    "more than 10 ** 60": [("R", MOST + 1)],
    "far more than 10 ** 60": [("R", 10 ** 3000)],
    "True": [("L", True)],
    "False": [("L", False)],
    "a text for how many": [("L", "1")],
    "a float for how many": [("L", 1.0)],
    "None for how many": [("L", None)],
    "a list for how many": [("L", [1])],
    "a list for the tuple": [["L", 1]],
    "a text for the tuple": ["L1"],
    "a text of two for the tuple": ["LR"],
    "a number for the tuple": [1],
    "None for the tuple": [None],
    "a dict for the tuple": [{"L": 1, "R": 1}],
    "three parts": [("L", 1, 1)],
    "one part": [("L",)],
    "no part": [()],
    "turned about": [(1, "L")],
    "the same step twice": [("L", 1), ("L", 1)],
    "the same step twice, the other one": [("R", 2), ("R", 3)],
    "the same step twice, later": [("L", 1), ("R", 1), ("L", 2), ("L", 1)],
    "the same step three times": [("R", 1), ("R", 1), ("R", 1)],
    "a wrong one first": [("L", 0), ("R", 1)],
    "a wrong one last": [("L", 1), ("R", 1), ("L", 0)],
    "a tuple of tuples": (("L", 1), ("R", 1)),
    "a dict of tuples": {("L", 1): 1},
    "a tuple alone": ("L", 1),
    "a fraction": (1, 1),
    "a list of two": ["L", 1],
}


def refusal(call, *told):
    """The class of what the call raises, None where it raises nothing."""
    try:
        call(*told)
    except Exception as error:
        return error.__class__
    return None
