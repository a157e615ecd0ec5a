"""Exact fractions: tuples (top, bottom) in lowest terms, the bottom 1 or more."""

from roundsides.errors import NoBottom
from roundsides.wholes import are_wholes, common_divisor, exact_root


def is_fraction(thing):
    """Whether anything is a fraction."""
    return are_wholes(thing, 2) and thing[1] >= 1 and common_divisor(thing[0], thing[1]) == 1


def fraction_of(top, bottom):
    """The fraction that top through bottom is."""
    if bottom == 0:
        raise NoBottom("a fraction has no bottom of 0")
    divisor = common_divisor(top, bottom)
    if bottom < 0:
        divisor = -divisor
    return (top // divisor, bottom // divisor)


def frac_sum(one, other):
    """The sum of two fractions."""
    return fraction_of(one[0] * other[1] + other[0] * one[1], one[1] * other[1])


def frac_less(one, other):
    """The first fraction less the second."""
    return fraction_of(one[0] * other[1] - other[0] * one[1], one[1] * other[1])


def frac_times(one, other):
    """The product of two fractions."""
    return fraction_of(one[0] * other[0], one[1] * other[1])


def frac_by(one, other):
    """The quotient of the first fraction by the second, which must not be 0."""
    return fraction_of(one[0] * other[1], one[1] * other[0])


def frac_below(one, other):
    """Whether the first fraction is less than the second."""
    return one[0] * other[1] < other[0] * one[1]


def frac_root(fraction):
    """The fraction of 0 or more whose square the fraction is, or None where there is none."""
    # In lowest terms a fraction is a square only where its top and its bottom both are.
    top = exact_root(fraction[0])
    bottom = exact_root(fraction[1])
    if top is None or bottom is None:
        return None
    return (top, bottom)


def one_bottom(fractions):
    """The least bottom that fractions have in common, and the list of their tops over it."""
    bottom = 1
    for fraction in fractions:
        bottom = bottom // common_divisor(bottom, fraction[1]) * fraction[1]
    return (bottom, [fraction[0] * (bottom // fraction[1]) for fraction in fractions])
