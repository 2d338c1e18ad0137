"""The refusals."""


class FractionError(ValueError):
    """Any refusal."""


class BadFraction(FractionError):
    """What is no fraction, or no bound, where one is asked for."""


class BadNumber(FractionError):
    """What is no whole number, or one beyond what is asked for."""


class BadOrder(FractionError):
    """Two bounds of which the one is not less than the other."""


class BadRoad(FractionError):
    """What is no road."""


class BadText(FractionError):
    """What is not written as a bound or a road is."""


class NotThere(FractionError):
    """What does not stand in a row."""


class TooGreat(FractionError):
    """A fraction whose top or bottom is beyond the bounds."""
