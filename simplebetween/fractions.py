"""Fractions, bounds, and which of two is less."""

from math import gcd

from simplebetween.errors import BadFraction, BadNumber

MOST = 10 ** 60
NOUGHT = (0, 1)
WITHOUT_END = (1, 0)


def is_number(thing, least):
    """Whether it is a whole number from the least to 10 ** 60."""
    return type(thing) is int and least <= thing <= MOST


def is_pair(thing):
    """Whether it is a tuple of two, whatever they are."""
    return type(thing) is tuple and len(thing) == 2


def is_fraction(thing):
    """Whether it is a fraction, in lowest terms and within the bounds."""
    if not is_pair(thing):
        return False
    top, bottom = thing
    # Asked in this order, so that gcd is given whole numbers only.
    return is_number(top, 1) and is_number(bottom, 1) and gcd(top, bottom) == 1


def is_bound(thing):
    """Whether it is a fraction, nought or without end."""
    return is_fraction(thing) or is_nought_or_without_end(thing)


def is_nought_or_without_end(thing):
    """Whether it is one of the two bounds that are no fractions."""
    if not is_pair(thing):
        return False
    top, bottom = thing
    # (False, True) equals (0, 1), so the kinds of the parts are asked first.
    if not is_number(top, 0) or not is_number(bottom, 0):
        return False
    return thing == NOUGHT or thing == WITHOUT_END


def is_less(one, other):
    """Whether the one bound is less than the other."""
    if not is_bound(one) or not is_bound(other):
        raise BadFraction("one of the two is no bound")
    return apart(one, other) > 0


def apart(one, other):
    """How far apart the cross products are: above 0 where the one is less, below 0 where it is greater."""
    return other[0] * one[1] - one[0] * other[1]


def lowest(top, bottom):
    """The fraction, or nought, that comes to the top by the bottom."""
    if not is_number(top, 0):
        raise BadNumber("the top is no whole number from 0 to 10 ** 60")
    if not is_number(bottom, 1):
        raise BadNumber("the bottom is no whole number from 1 to 10 ** 60")
    shared = gcd(top, bottom)
    return (top // shared, bottom // shared)
