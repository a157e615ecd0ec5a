"""Curves of second kind: six whole numbers (a, b, c, d, e, f) of axx + byy + czz + dyz + exz + fxy."""

from roundsides.errors import NoCurve, NoTriple
from roundsides.fracs import one_bottom
from roundsides.points import cross, dot, is_triple, need_triple
from roundsides.wholes import are_kept, are_wholes, kept


def determinant(six):
    """The determinant of six numbers: 0 just where they make no curve."""
    a, b, c, d, e, f = six
    return 4 * a * b * c + d * e * f - a * d * d - b * e * e - c * f * f


def is_curve(thing):
    """Whether anything is a curve."""
    return are_wholes(thing, 6) and are_kept(thing) and determinant(thing) != 0


def kept_curve(six):
    """The curve that six whole numbers are times one fraction."""
    if not are_wholes(six, 6) or determinant(six) == 0:
        raise NoCurve("these six make no curve")
    return kept(six)


def fraction_curve(six):
    """The curve that six fractions are times one fraction."""
    return kept_curve(tuple(one_bottom(six)[1]))


def need_curve(thing):
    """Refuses what is no curve."""
    if not is_curve(thing):
        raise NoCurve("this is no curve")


def worth_at(six, point):
    """What the six numbers are worth at a point: 0 just where it lies on their curve."""
    a, b, c, d, e, f = six
    x, y, z = point
    return a * x * x + b * y * y + c * z * z + d * y * z + e * x * z + f * x * y


def curve_has(curve, point):
    """Whether the point lies on the curve."""
    need_curve(curve)
    need_triple(point)
    return worth_at(curve, point) == 0


def slopes(six):
    """How fast the determinant of six numbers rises with each of them."""
    a, b, c, d, e, f = six
    return (
        4 * b * c - d * d,
        4 * a * c - e * e,
        4 * a * b - f * f,
        e * f - 2 * a * d,
        d * f - 2 * b * e,
        d * e - 2 * c * f,
    )


def dual_curve(curve):
    """The curve whose points are the lines that touch the curve."""
    need_curve(curve)
    rises = slopes(curve)
    return kept(rises[:3] + tuple([2 * rise for rise in rises[3:]]))


def curve_touches(curve, line):
    """Whether the line touches the curve."""
    need_curve(curve)
    need_triple(line)
    return worth_at(dual_curve(curve), line) == 0


def meets(six, line):
    """The six numbers of both points in which a line meets a curve, times one number: two_lines of them, so to say."""
    a, b, c, d, e, f = six
    x, y, z = line
    # At another line they are worth what the curve is worth where both lines cross: 0 just for lines through one of
    # the two points.
    return (
        b * z * z + c * y * y - d * y * z,
        a * z * z + c * x * x - e * x * z,
        a * y * y + b * x * x - f * x * y,
        x * (e * y + f * z - d * x) - 2 * a * y * z,
        y * (d * x + f * z - e * y) - 2 * b * x * z,
        z * (d * x + e * y - f * z) - 2 * c * x * y,
    )


def need_five(things):
    """Refuses what is no list of five triples, then five of which three are on one line or two alike."""
    if not isinstance(things, list) or len(things) != 5 or not all([is_triple(thing) for thing in things]):
        raise NoTriple("this is no list of five triples")
    if three_in_row(things):
        raise NoCurve("three of these are in one row, or two alike")


def three_in_row(triples):
    """Whether three of the points lie on one line (of lines: meet in one point); two like ones with any third do."""
    for third in range(len(triples)):
        for second in range(third):
            for first in range(second):
                if dot(cross(triples[first], triples[second]), triples[third]) == 0:
                    return True
    return False


def two_lines(one, other):
    """The six numbers whose points are those of two lines."""
    return (
        one[0] * other[0],
        one[1] * other[1],
        one[2] * other[2],
        one[1] * other[2] + one[2] * other[1],
        one[0] * other[2] + one[2] * other[0],
        one[0] * other[1] + one[1] * other[0],
    )


def curve_through(points):
    """The one curve on which five points lie."""
    need_five(points)
    first, second, third, fourth, fifth = points
    # Both pairs of lines go through the first four points, and so does what is mixed of them: just one mix
    # is worth 0 at the fifth.
    straight = two_lines(cross(first, second), cross(third, fourth))
    other = two_lines(cross(first, third), cross(second, fourth))
    straight_worth = worth_at(straight, fifth)
    other_worth = worth_at(other, fifth)
    return kept_curve(tuple([other_worth * one - straight_worth * two for one, two in zip(straight, other)]))


def curve_touching(lines):
    """The one curve that five lines touch."""
    return dual_curve(curve_through(lines))
