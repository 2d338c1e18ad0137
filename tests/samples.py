"""Values that more than one test hands in."""

MOST = 10 ** 60


class LikeAll:
    """Says of itself that it equals all, and is neither less nor greater."""

    def __eq__(self, other):
        return True

    def __lt__(self, other):
        return False

    __hash__ = object.__hash__
    __gt__ = __lt__
    __le__ = __ge__ = __eq__


class LikeNone:
    """Refuses to be compared."""

    def __eq__(self, other):
        raise RuntimeError("not to be compared")

    __hash__ = object.__hash__
    __lt__ = __gt__ = __le__ = __ge__ = __eq__


# Of no kind that the program takes anywhere.
ODD_THINGS = [
    None, True, False, 1.5, 2.0, float("inf"), float("nan"), 1j, "", "1", "1/2", "L1", ".", "LR", "ab",
    b"", b"12", {}, {1: 2}, {1: 2, 3: 4}, set(), {1, 2}, frozenset({1, 2}), range(1, 3),
    object(), LikeAll(), LikeNone(), len, int, ValueError("1"), (), ((),), ((), ()), (1, 2, 3), (1,), [1, 2], [[1, 2]],
]

# Tuples of two, each with a part that no bound has.
_WRONG_PAIRS = [
    (True, 2), (2, True), (True, True), (False, 1), (0, True), (False, True), (True, False), (1, False), (True, 0),
    (1.0, 2), (1, 2.0), (0.0, 1), (1, 0.0), (float("nan"), 1), ("1", 2), (1, "2"), ("1", "2"), ("L", 1),
    (None, 1), (1, None), ([1], 2), (1, [2]), ((1,), 2), (1, (2,)), (b"1", 2), ({}, 1), (1, object()),
    (LikeAll(), 1), (1, LikeAll()), (LikeAll(), LikeAll()), (LikeNone(), 1), (1, LikeNone()),
    (-1, 2), (1, -2), (-1, -2), (0, -1), (-1, 0), (0, 0), (0, 2), (2, 0), (0, MOST), (MOST, 0),
    (2, 4), (2, 2), (6, 4), (MOST, MOST), (MOST, 2), (5, MOST), (10 ** 30, 10 ** 31),
    (MOST + 1, 1), (1, MOST + 1), (MOST + 1, MOST), (MOST, MOST + 1), (MOST + 1, 0), (0, MOST + 1),
    (10 ** 3000, 1), (1, 10 ** 3000), (-10 ** 3000, 1),
]

NO_BOUNDS = ODD_THINGS + _WRONG_PAIRS
NO_FRACTIONS = NO_BOUNDS + [(0, 1), (1, 0)]

FRACTIONS = [
    (1, 1), (1, 2), (2, 1), (3, 2), (5, 7), (22, 7), (355, 113), (1, MOST), (MOST, 1),
    (MOST, MOST - 1), (MOST - 1, MOST), (MOST, 3), (7, MOST), (2 ** 199, 3 ** 125),
]

NO_WHOLE_NUMBERS = ODD_THINGS + [(1, 2), "7", b"7", [7], 7.0, -7.0]


def refusal(call, *told):
    """The class of what the call raises, None where it raises nothing."""
    try:
        call(*told)
    except Exception as error:
        return error.__class__
    return None
