"""First sides: points of whole numbers in which lines meet a curve, and flags whose line has small numbers."""

from roundsides.curves import dual_curve, need_curve, worth_at
from roundsides.pairs import need_pair
from roundsides.points import cross, is_triple, need_triple
from roundsides.wholes import exact_root, kept, need_within

UNITS = ((1, 0, 0), (0, 1, 0), (0, 0, 1))


def two_points(line):
    """Two unlike points of a line, not kept."""
    lead = min([at for at in range(3) if line[at] != 0])
    return [cross(line, unit) for at, unit in enumerate(UNITS) if at != lead]


def mix(one, other, shares):
    """The sum of two points, each times its share."""
    return tuple([shares[0] * first + shares[1] * second for first, second in zip(one, other)])


def meeting_points(curve, line):
    """The rising list of the points of whole numbers in which a line meets a curve."""
    one, other = two_points(line)
    # A mix by the shares s and t is worth first ss + middle st + last tt: it lies on the curve where that is 0.
    first = worth_at(curve, one)
    last = worth_at(curve, other)
    middle = worth_at(curve, mix(one, other, (1, 1))) - first - last
    root = exact_root(middle * middle - 4 * first * last)
    if root is None:
        return []
    if first == 0:
        shares = ((1, 0), (last, -middle))
    else:
        shares = ((root - middle, 2 * first), (-root - middle, 2 * first))
    return sorted(set([kept(mix(one, other, both)) for both in shares]))


def line_meets(curve, line):
    """The rising list of the points of whole numbers in which a line meets a curve."""
    need_curve(curve)
    need_triple(line)
    return meeting_points(curve, line)


def small_lines(most):
    """All lines without a number below -most or above most."""
    numbers = list(range(-most, most + 1))
    threes = [(a, b, c) for a in numbers for b in numbers for c in numbers]
    return [three for three in threes if is_triple(three)]


def first_flags(outer, inner, most):
    """The rising list of all flags of a pair whose line has no number below -most or above most."""
    need_pair(outer, inner)
    need_within(most, 1, 4)
    dual = dual_curve(inner)
    lines = [line for line in small_lines(most) if worth_at(dual, line) == 0]
    return sorted([(point, line) for line in lines for point in meeting_points(outer, line)])
