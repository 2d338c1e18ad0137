"""Roads of steps to fractions, and the borders behind them."""

from simplebetween.errors import BadFraction, BadRoad, TooGreat
from simplebetween.fractions import MOST, NOUGHT, WITHOUT_END, is_fraction, is_number, is_pair


def road_of(fraction):
    """The road that leads to the fraction."""
    if not is_fraction(fraction):
        raise BadFraction("this is no fraction")
    top, bottom = fraction
    road = []
    # Without a common divisor the two are alike only at (1, 1), where all roads
    # begin. The 1 that is taken off lets the division stop there, and not at 0.
    while top != bottom:
        if top > bottom:
            many = (top - 1) // bottom
            top -= many * bottom
            road.append(("R", many))
        else:
            many = (bottom - 1) // top
            bottom -= many * top
            road.append(("L", many))
    return road


def fraction_at(road):
    """The fraction that the road leads to."""
    if not is_road(road):
        raise BadRoad("this is no road")
    lower, upper = borders_behind(road)
    return middle(lower, upper)


def borders(fraction):
    """The lower and the upper border where one stands at the fraction."""
    # What is no fraction is refused by road_of.
    return borders_behind(road_of(fraction))


def is_road(thing):
    """Whether it is a list of steps, each of another sort than the one ahead of it."""
    if type(thing) is not list:
        return False
    step_ahead = ""
    for part in thing:
        if not is_part_of_road(part):
            return False
        step, _ = part
        if step == step_ahead:
            return False
        step_ahead = step
    return True


def is_part_of_road(thing):
    """Whether it is a step and how many of it."""
    if not is_pair(thing):
        return False
    step, many = thing
    return type(step) is str and step in ("L", "R") and is_number(many, 1)


def borders_behind(road):
    """The lower and the upper border behind a road; TooGreat beyond the bounds."""
    lower = NOUGHT
    upper = WITHOUT_END
    for step, many in road:
        if step == "L":
            upper = moved(upper, lower, many)
        else:
            lower = moved(lower, upper, many)
        # No step makes a middle smaller, so what is too great now stays so,
        # and a long road is not walked with ever longer numbers.
        if is_too_great(middle(lower, upper)):
            raise TooGreat("the top or the bottom is beyond 10 ** 60")
    return (lower, upper)


def moved(border, other, many):
    """The border behind so many steps alike that move it towards the other one."""
    # Each of these steps adds the other border once: all are taken in one sum.
    return (border[0] + many * other[0], border[1] + many * other[1])


def middle(lower, upper):
    """The middle of two bounds."""
    return (lower[0] + upper[0], lower[1] + upper[1])


def is_too_great(pair):
    """Whether the top or the bottom is beyond 10 ** 60."""
    return pair[0] > MOST or pair[1] > MOST
