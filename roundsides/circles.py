"""Circles: their curves, and the old rules for rings of three and of four sides between two of them."""

from roundsides.curves import fraction_curve
from roundsides.errors import NoCircle
from roundsides.fracs import frac_less, frac_sum, frac_times, is_fraction

NOUGHT = (0, 1)
ONE = (1, 1)
TWICE = (2, 1)


def is_radius_square(thing):
    """Whether anything is a fraction above 0."""
    return is_fraction(thing) and thing[0] > 0


def circle_curve(x, y, square):
    """The curve of the circle about (x, y, 1) whose radius has the square told."""
    if not is_fraction(x) or not is_fraction(y) or not is_radius_square(square):
        raise NoCircle("these are no fractions of a circle")
    last = frac_less(frac_sum(frac_times(x, x), frac_times(y, y)), square)
    minus_twice = (-2, 1)
    return fraction_curve((ONE, ONE, last, frac_times(minus_twice, y), frac_times(minus_twice, x), NOUGHT))


def need_circles(outer, inner, gap):
    """Refuses what are no squares of two radii and of the distance of the centres."""
    if not is_radius_square(outer) or not is_radius_square(inner) or not is_fraction(gap) or gap[0] < 0:
        raise NoCircle("these are no squares of two radii and a distance")


def circles_rule(outer, inner, gap):
    """The rising list of those of the numbers 3 and 4 for which the old rule of two circles holds."""
    need_circles(outer, inner, gap)
    less = frac_less(outer, gap)
    square = frac_times(less, less)
    twice_inner = frac_times(TWICE, inner)
    told = []
    if square == frac_times(frac_times(TWICE, outer), twice_inner):
        told.append(3)
    if outer == gap or square == frac_times(twice_inner, frac_sum(outer, gap)):
        told.append(4)
    return told
