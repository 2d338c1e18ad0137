"""The simplest fraction between two bounds."""

from simplebetween.errors import BadOrder, TooGreat
from simplebetween.fractions import NOUGHT, WITHOUT_END, apart, is_less
from simplebetween.roads import is_too_great, middle, moved


def simplest(one, other):
    """The simplest fraction that is greater than the one and less than the other."""
    # What is no bound is refused by is_less.
    if not is_less(one, other):
        raise BadOrder("the one is not less than the other")
    found = first_between(one, other)
    if is_too_great(found):
        raise TooGreat("the top or the bottom is beyond 10 ** 60")
    return found


def first_between(one, other):
    """The first middle between the two that one comes to."""
    # The roads to all others between the two go by way of the first one, and no
    # step makes a top or a bottom less: so it is the simplest.
    lower, upper = NOUGHT, WITHOUT_END
    found = middle(lower, upper)
    while not is_between(found, one, other):
        # Steps alike are taken in one sum, just as many as bring the middle beyond
        # the one, then as many as bring it short of the other: 0 if it is there.
        # The latter may bring it back to the one, and it goes on.
        lower = moved(lower, upper, apart(lower, one) // apart(one, upper))
        upper = moved(upper, lower, apart(other, upper) // apart(lower, other))
        found = middle(lower, upper)
    return found


def is_between(pair, one, other):
    """Whether it is greater than the one and less than the other."""
    return apart(one, pair) > 0 and apart(pair, other) > 0
