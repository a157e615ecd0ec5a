"""The refusals of the program: each has a class of its own, straight beneath RoundError."""


class RoundError(ValueError):
    """Any refusal."""


class NoBottom(RoundError):
    """A fraction with a bottom of 0, or a quotient by 0."""


class NoFraction(RoundError):
    """What is no fraction."""


class NoTriple(RoundError):
    """What is no triple, or no list of as many triples as are asked for."""


class Alike(RoundError):
    """Two like points or two like lines, where unlike ones are asked for."""


class NoCurve(RoundError):
    """What is no curve, or what makes none."""


class NoPair(RoundError):
    """Two curves that do not meet in four unlike points."""


class NoFlag(RoundError):
    """What is no corner with its side."""


class NoCubic(RoundError):
    """What is no cubic of a pair."""


class NoTable(RoundError):
    """What is no square table of fractions."""


class NoSpot(RoundError):
    """What is no spot of a cubic."""


class NoClock(RoundError):
    """What is no clock of a pair, or a pair without the clocks asked for."""


class NoChord(RoundError):
    """Chords that touch no curve."""


class NoSides(RoundError):
    """What is no number of sides for which cubics are made."""


class NoCircle(RoundError):
    """What is no circle, or are no two circles."""


class TooMany(RoundError):
    """What is no whole number within the bounds asked for."""


class NoPaper(RoundError):
    """What is no paper."""


class NoText(RoundError):
    """A text in which the thing asked for is not written."""


class NoLine(RoundError):
    """A line that the desk does not know."""
