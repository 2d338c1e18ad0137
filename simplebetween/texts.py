"""Bounds and roads as texts."""

from simplebetween.errors import BadFraction, BadRoad, BadText
from simplebetween.fractions import is_bound
from simplebetween.roads import is_road

MOST_FIGURES = 61
EMPTY_ROAD = "."


def bound_text(bound):
    """The text of a bound."""
    if not is_bound(bound):
        raise BadFraction("this is no bound")
    top, bottom = bound
    return f"{top}/{bottom}"


def read_bound(text):
    """The bound that is written so."""
    parts = parts_of(text, "/")
    if len(parts) != 2:
        raise BadText("this is no top and bottom")
    bound = (read_number(parts[0]), read_number(parts[1]))
    if not is_bound(bound):
        raise BadText("this reads as no bound")
    return bound


def road_text(road):
    """The text of a road."""
    if not is_road(road):
        raise BadRoad("this is no road")
    if not road:
        return EMPTY_ROAD
    return " ".join([f"{step}{many}" for step, many in road])


def read_road(text):
    """The road that is written so, however great its fraction is."""
    words = parts_of(text, " ")
    if words == [EMPTY_ROAD]:
        return []
    road = [(word[:1], read_number(word[1:])) for word in words]
    if not is_road(road):
        raise BadText("this reads as no road")
    return road


def parts_of(text, sign):
    """The parts of a text between the signs; BadText of what is no text."""
    if type(text) is not str:
        raise BadText("this is no text")
    return text.split(sign)


def read_number(figures):
    """The number that is written so; BadText of what is not written as numbers are."""
    if not figures.isascii() or not figures.isdigit() or len(figures) > MOST_FIGURES:
        raise BadText("a number is not written by 1 to 61 figures")
    if figures.startswith("0") and figures != "0":
        raise BadText("a number has a 0 ahead")
    return int(figures)
