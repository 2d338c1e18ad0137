"""Rows of all bounds up to (1, 1) with small bottoms."""

from simplebetween.errors import BadFraction, BadNumber, NotThere
from simplebetween.fractions import NOUGHT, is_bound, is_number

GREATEST_ROW = 60
LAST = (1, 1)


def row_of(number):
    """The row of the number, rising."""
    if not is_number(number, 1) or number > GREATEST_ROW:
        raise BadNumber("this is no whole number from 1 to 60")
    ahead, here = NOUGHT, (1, number)
    row = [ahead, here]
    while here != LAST:
        ahead, here = here, next_after(ahead, here, number)
        row.append(here)
    return row


def size_of(number):
    """How many bounds the row of the number has."""
    return len(row_of(number))


def place_of(bound, number):
    """The place of the bound in the row of the number."""
    if not is_bound(bound):
        raise BadFraction("this is no bound")
    row = row_of(number)
    if bound not in row:
        raise NotThere("the bound is not in the row")
    return row.index(bound)


def next_one(bound, number):
    """The one next to the bound in the row of the number."""
    # Behind the last one is no place, which at_place refuses.
    return at_place(place_of(bound, number) + 1, number)


def one_ahead(bound, number):
    """The one ahead of the bound in the row of the number."""
    # Ahead of the first one is no place, which at_place refuses.
    return at_place(place_of(bound, number) - 1, number)


def at_place(place, number):
    """The bound at the place of the row of the number."""
    row = row_of(number)
    if not is_number(place, 0) or place >= len(row):
        raise NotThere("this is no place of the row")
    return row[place]


def next_after(ahead, here, number):
    """The bound behind these two, which are next to one another in the row of the number."""
    # The one ahead and the one behind add up, top and bottom, to a multiple of the
    # one here, for the cross products of both with it are 1 apart. Of all that follow
    # so the nearest has the greatest bottom: as great as there is room for in the row.
    many = (number + ahead[1]) // here[1]
    return (many * here[0] - ahead[0], many * here[1] - ahead[1])
