"""Rows of all bounds up to (1, 1) with small bottoms."""

from simplebetween.errors import BadFraction, BadNumber, NotThere
from simplebetween.fractions import NOUGHT, is_bound, is_number
from simplebetween.roads import borders, moved

GREATEST_ROW = 60
LAST = (1, 1)


def row_of(number):
    """The row of the number, rising."""
    size = size_of(number)
    # What a bound of the row lacks to (1, 1) is in the row too: so one half tells the other.
    rising = first_ones(size - size // 2, number)
    return rising + [(bottom - top, bottom) for top, bottom in reversed(rising[:size // 2])]


def size_of(number):
    """How many bounds the row of the number has."""
    check_number(number)
    return 1 + place_within(LAST, number)


def place_of(bound, number):
    """The place of the bound in the row of the number."""
    check_within(bound, number)
    return place_within(bound, number)


def next_one(bound, number):
    """The one next to the bound in the row of the number."""
    check_within(bound, number)
    if bound == LAST:
        raise NotThere("next to the last one is none")
    if bound == NOUGHT:
        return (1, number)
    _, upper = borders(bound)
    return nearest_beside(upper, bound, number)


def one_ahead(bound, number):
    """The one ahead of the bound in the row of the number."""
    check_within(bound, number)
    if bound == NOUGHT:
        raise NotThere("ahead of the first one is none")
    lower, _ = borders(bound)
    return nearest_beside(lower, bound, number)


def at_place(place, number):
    """The bound at the place of the row of the number."""
    last_place = size_of(number) - 1
    if not is_number(place, 0) or place > last_place:
        raise NotThere("this is no place of the row")
    from_the_end = last_place - place
    if place <= from_the_end:
        return first_ones(place + 1, number)[-1]
    # As far from the end as this place stands what its bound lacks to (1, 1) from nought.
    top, bottom = first_ones(from_the_end + 1, number)[-1]
    return (bottom - top, bottom)


def check_number(number):
    """BadNumber of what is no number from 1 to 60."""
    if not is_number(number, 1) or number > GREATEST_ROW:
        raise BadNumber("this is no whole number from 1 to 60")


def check_within(bound, number):
    """BadFraction of what is no bound, then BadNumber, then NotThere of one that is not in the row."""
    if not is_bound(bound):
        raise BadFraction("this is no bound")
    check_number(number)
    top, bottom = bound
    # Without end, too, is refused for its top.
    if bottom > number or top > bottom:
        raise NotThere("the bound is not in the row")


def place_within(bound, number):
    """The place of a bound that is in the row of the number."""
    top, bottom = bound
    # For each bottom, as many tops from 1 as are not beyond the bound, with common divisors or without.
    many = [top * each // bottom for each in range(number + 1)]
    # Each one without a common divisor comes again at all multiples of its bottom:
    # taken off from the least bottom on, those without a common divisor remain.
    for each in range(1, number // 2 + 1):
        again = many[each]
        for multiple in range(2 * each, number + 1, each):
            many[multiple] -= again
    return sum(many)


def first_ones(many, number):
    """So many bounds of the row of the number, from nought on."""
    # What would stand ahead of nought, as (1, number) stands behind it, starts the sums.
    top_ahead, bottom_ahead = -1, number
    top, bottom = NOUGHT
    row = []
    for _ in range(many):
        row.append((top, bottom))
        # The one ahead and the one behind add up, top and bottom, to a multiple of the
        # one here, for the cross products of both with it are 1 apart. Of all that follow
        # so the nearest has the greatest bottom: as great as there is room for in the row.
        times = (number + bottom_ahead) // bottom
        top_ahead, top = top, times * top - top_ahead
        bottom_ahead, bottom = bottom, times * bottom - bottom_ahead
    return row


def nearest_beside(border, bound, number):
    """The nearest one to the bound, on the side of this border of it, in the row of the number."""
    # All whose cross product with the bound is 1 apart are so many steps from the border
    # towards the bound. The nearest has the greatest bottom that the row has room for.
    return moved(border, bound, (number - border[1]) // bound[1])
