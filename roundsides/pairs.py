"""Pairs of curves, and the cubic 1 + gt + htt + kttt of an outer and an inner one."""

from roundsides.curves import determinant, need_curve, slopes
from roundsides.errors import NoCubic, NoPair
from roundsides.fracs import fraction_of, is_fraction, one_bottom


def mixed_worths(outer, inner):
    """The four numbers (w, u, v, r) for which w + ut + vtt + rttt is the determinant of t times outer, and inner."""
    return (
        determinant(inner),
        sum([rise * number for rise, number in zip(slopes(inner), outer)]),
        sum([rise * number for rise, number in zip(slopes(outer), inner)]),
        determinant(outer),
    )


def discriminant(four):
    """The discriminant of w + ut + vtt + rttt: 0 just where two of its three roots are one."""
    w, u, v, r = four
    return u * u * v * v - 4 * w * v * v * v - 4 * u * u * u * r - 27 * w * w * r * r + 18 * w * u * v * r


def need_two_curves(outer, inner):
    """Refuses what are no two curves."""
    need_curve(outer)
    need_curve(inner)


def is_pair(outer, inner):
    """Whether two curves meet in four unlike points."""
    need_two_curves(outer, inner)
    return discriminant(mixed_worths(outer, inner)) != 0


def need_pair(outer, inner):
    """Refuses what are no two curves, then curves that are no pair."""
    if not is_pair(outer, inner):
        raise NoPair("these curves do not meet in four unlike points")


def pair_cubic(outer, inner):
    """The cubic of a pair, as the tuple (g, h, k) of fractions."""
    need_pair(outer, inner)
    w, u, v, r = mixed_worths(outer, inner)
    return (fraction_of(u, w), fraction_of(v, w), fraction_of(r, w))


def whole_cubic(cubic):
    """Four whole numbers (w, u, v, r), w above 0: by w they are 1 and the cubic's three fractions."""
    bottom, tops = one_bottom(cubic)
    return (bottom, tops[0], tops[1], tops[2])


def is_cubic(thing):
    """Whether anything is a cubic."""
    if not isinstance(thing, tuple) or len(thing) != 3 or not all([is_fraction(part) for part in thing]):
        return False
    return thing[2] != (0, 1) and discriminant(whole_cubic(thing)) != 0


def need_cubic(thing):
    """Refuses what is no cubic."""
    if not is_cubic(thing):
        raise NoCubic("this is no cubic")
