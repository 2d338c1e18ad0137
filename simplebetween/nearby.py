"""The nearest bounds with a small bottom."""

from simplebetween.errors import BadFraction, BadNumber
from simplebetween.fractions import WITHOUT_END, apart, is_bound, is_number
from simplebetween.roads import moved


def low_high(bound, most):
    """The low one and the high one of the bound, with bottoms up to the most."""
    if not is_bound(bound) or bound == WITHOUT_END:
        raise BadFraction("this is no bound, or is without end")
    if not is_number(most, 1):
        raise BadNumber("the most is no whole number from 1 to 10 ** 60")
    if bound[1] <= most:
        return (bound, bound)
    return around(bound, most)


def nearest(bound, most):
    """The low one or the high one, which of them is less far away."""
    low, high = low_high(bound, most)
    # Both ways are over the three bottoms: by all three they are whole numbers.
    way_to_low = apart(low, bound) * high[1]
    way_to_high = apart(bound, high) * low[1]
    if way_to_low < way_to_high:
        return low
    if way_to_high < way_to_low:
        return high
    return high if high[1] < low[1] else low


def around(bound, most):
    """The low one and the high one of a bound whose bottom is beyond the most."""
    # Such a bound is no whole number, so it lies between two; and neither of the
    # two below is ever the bound itself, for their bottoms stay up to the most.
    whole = bound[0] // bound[1]
    low, high = (whole, 1), (whole + 1, 1)
    # Between two borders no bottom is less than their middle's.
    while low[1] + high[1] <= most:
        low = moved_within(low, high, apart(low, bound) // apart(bound, high), most)
        high = moved_within(high, low, apart(bound, high) // apart(low, bound), most)
    return (low, high)


def moved_within(border, other, many, most):
    """The border behind so many steps towards the other one, or as many as its bottom has room for."""
    room = (most - border[1]) // other[1]
    return moved(border, other, min(many, room))
