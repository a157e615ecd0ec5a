"""Spots: points (t, y) of fractions on the cubic yy = 1 + gt + htt + kttt, and their sums."""

from roundsides.errors import NoSpot
from roundsides.fracs import frac_by, frac_less, frac_sum, frac_times, is_fraction
from roundsides.pairs import need_cubic, whole_cubic
from roundsides.wholes import need_within


def is_spot(cubic, thing):
    """Whether anything is a spot of a cubic."""
    need_cubic(cubic)
    if thing is None:
        return True
    if not isinstance(thing, tuple) or len(thing) != 2 or not all([is_fraction(part) for part in thing]):
        return False
    (t, below), (y, bottom) = thing
    w, u, v, r = whole_cubic(cubic)
    worth = w * below * below * below + u * t * below * below + v * t * t * below + r * t * t * t
    return y * y * w * below * below * below == bottom * bottom * worth


def need_spot(cubic, thing):
    """Refuses what is no cubic, then what is no spot of it."""
    if not is_spot(cubic, thing):
        raise NoSpot("this is no spot of this cubic")


def contrary(spot):
    """The spot whose sum with a spot is None."""
    if spot is None:
        return None
    t, y = spot
    return (t, frac_less((0, 1), y))


def slope(cubic, one, other):
    """How steep the line through two spots is, or of like spots the one that touches there."""
    if one != other:
        return frac_by(frac_less(other[1], one[1]), frac_less(other[0], one[0]))
    g, h, k = cubic
    t, y = one
    rise = frac_sum(frac_times(frac_sum(frac_times(frac_times((3, 1), k), t), frac_times((2, 1), h)), t), g)
    return frac_by(rise, frac_times((2, 1), y))


def added(cubic, one, other):
    """The sum of two spots of a cubic."""
    if one is None:
        return other
    if other is None:
        return one
    if other == contrary(one):
        return None
    h, k = cubic[1:]
    steep = slope(cubic, one, other)
    # The three t's of a line's spots sum to the square of its slope less h, by k.
    all_three = frac_by(frac_less(frac_times(steep, steep), h), k)
    t = frac_less(all_three, frac_sum(one[0], other[0]))
    return (t, frac_less(frac_times(steep, frac_less(one[0], t)), one[1]))


def spot_sum(cubic, one, other):
    """The sum of two spots of a cubic."""
    need_spot(cubic, one)
    need_spot(cubic, other)
    return added(cubic, one, other)


def spot_times(cubic, spot, many):
    """The sum of so many times a spot; below 0 of its contrary one."""
    need_spot(cubic, spot)
    need_within(many, -24, 24)
    step = spot if many >= 0 else contrary(spot)
    left = abs(many)
    total = None
    while left > 0:
        if left & 1:
            total = added(cubic, total, step)
        left = left // 2
        # Behind the last one a further doubling would only be thrown away, and its numbers are the longest.
        if left > 0:
            step = added(cubic, step, step)
    return total
