"""Things reckoned for the tests in another way than the program does."""

from fractions import Fraction
from math import gcd

from roundsides.curves import curve_through, curve_touching
from roundsides.points import joined, kept_triple
from tests.support import CIRCLE, FORTY, THIRTY, number_row


def matrix(six):
    """Twice the curve as a table of three rows of three."""
    a, b, c, d, e, f = six
    return [[2 * a, f, e], [f, 2 * b, d], [e, d, 2 * c]]


def minor(rows, at, along):
    kept_rows = [[row[k] for k in range(3) if k != along] for i, row in enumerate(rows) if i != at]
    return kept_rows[0][0] * kept_rows[1][1] - kept_rows[0][1] * kept_rows[1][0]


def rows_worth(rows):
    return sum((-1) ** k * rows[0][k] * minor(rows, 0, k) for k in range(3))


def oracle_kept(numbers):
    divisor = gcd(*numbers)
    lead = next(number for number in numbers if number)
    return tuple(number // (divisor if lead > 0 else -divisor) for number in numbers)


def oracle_dual(six):
    """The curve of the table of signed minors."""
    rows = matrix(six)
    signed = [[(-1) ** (i + k) * minor(rows, i, k) for k in range(3)] for i in range(3)]
    numbers = [signed[i][i] for i in range(3)] + [2 * signed[1][2], 2 * signed[0][2], 2 * signed[0][1]]
    return oracle_kept(numbers)


def curves():
    """Ordinary ones, such with many noughts, and such of numbers of forty figures."""
    made = [
        CIRCLE, (1, 1, 1, 0, 0, 0), (1, 1, -4, 0, 0, 0), (1, 1, -1, 0, 2, 0), (0, 1, 0, 0, 2, 0), (0, 0, 0, 1, 1, 1),
        (0, 0, 1, 0, 0, 1), (2, 3, 5, 7, 11, 13), (1, -2, 3, -4, 5, -6), (0, 0, 0, 3, -5, 7), (1, 0, 0, 1, 0, 0),
        (FORTY, 1, -1, 0, 0, 0), (1, 1, -FORTY, 0, 0, 0), (0, 0, 1, 0, 0, FORTY), (FORTY, FORTY + 1, 3, 1, 1, 1),
    ]
    for seed, most in ((11, 3), (12, 9), (13, 99), (14, 10 ** 30), (15, 10 ** 40 - 1)):
        row = number_row(seed, 36, most)
        for at in range(0, 36, 6):
            six = row[at:at + 6]
            if any(six) and rows_worth(matrix(six)) != 0:
                made.append(oracle_kept(six))
    return made


def circle_points(rows, many):
    """Points of the circle, moved by a table of three rows."""
    points = []
    for t in range(many):
        here = (2 * t, 1 - t * t, 1 + t * t)
        points.append(kept_triple(tuple(sum(x * y for x, y in zip(row, here)) for row in rows)))
    return points


TABLES = [
    ((1, 0, 0), (0, 1, 0), (0, 0, 1)),
    ((1, 2, 0), (0, 1, 3), (1, 0, 1)),
    ((2, -1, 1), (1, 1, 0), (0, 3, 5)),
    ((THIRTY, 1, 0), (0, 1, THIRTY), (1, 1, 1)),
]


def tangent(curve, point):
    """The line that touches a curve in one of its points."""
    return kept_triple(tuple(sum(x * y for x, y in zip(row, point)) for row in matrix(curve)))


def worth(six, point):
    """What six numbers are worth at a point, by their table."""
    return sum(row[k] * x * point[k] for row, x in zip(matrix(six), point) for k in range(3)) // 2


def crossing(one, other):
    return (
        one[1] * other[2] - one[2] * other[1],
        one[2] * other[0] - one[0] * other[2],
        one[0] * other[1] - one[1] * other[0],
    )


def oracle_other(six, point, line):
    """The other point of a line on a curve: what is mixed of the point and one across is worth 0 there just twice."""
    across = crossing(line, point)
    both = tuple(x + y for x, y in zip(point, across))
    alone = worth(six, across)
    mixed = worth(six, both) - alone - worth(six, point)
    return oracle_kept([alone * x - mixed * y for x, y in zip(point, across)])


def oracle_next(outer, inner, flag):
    point, line = flag
    other = oracle_other(outer, point, line)
    return (other, oracle_other(oracle_dual(inner), line, other))


def pair_with_flag(seed, most):
    """An outer curve through five points and an inner one that touches the line through two of them, and that flag."""
    row = number_row(seed, 27, most)
    threes = [kept_triple(tuple(row[at:at + 3])) for at in range(0, 27, 3)]
    line = joined(threes[0], threes[1])
    return (curve_through(threes[:5]), curve_touching(threes[5:] + [line]), (threes[0], line))


def as_fraction(number):
    return (number.numerator, number.denominator)


def counted_cubic(sides, t):
    """A cubic whose walks come back behind just so many sides, by the known rows of b and c, or None."""
    if sides == 3:
        return tuple(as_fraction(number) for number in (2 * t, t * t, Fraction(1)))
    try:
        if sides == 4:
            b, c = t, Fraction(0)
        elif sides == 5:
            b, c = t, t
        elif sides == 6:
            b, c = t + t * t, t
        elif sides == 7:
            b, c = t ** 3 - t ** 2, t ** 2 - t
        elif sides == 8:
            b = (2 * t - 1) * (t - 1)
            c = b / t
        elif sides == 9:
            c = t * t * (t - 1)
            b = c * (t * (t - 1) + 1)
        elif sides == 10:
            w = t - (t - 1) ** 2
            c = t * (t - 1) * (2 * t - 1) / w
            b = c * t * t / w
        else:
            c = (3 * t * t - 3 * t + 1) * (t - 2 * t * t) / (t - 1) ** 3
            b = c * (2 * t - 2 * t * t - 1) / (t - 1)
        numbers = (-2 * (1 - c) / b, ((1 - c) ** 2 - 4 * b) / b ** 2, 4 / b ** 2)
    except ZeroDivisionError:
        return None
    return tuple(as_fraction(number) for number in numbers)


def cubic_fits(cubic):
    """Whether three fractions make a cubic with three unlike roots."""
    g, h, k = (Fraction(*number) for number in cubic)
    return k != 0 and g * g * h * h - 4 * h ** 3 - 4 * k * g ** 3 - 27 * k * k + 18 * g * h * k != 0


COUNTS = (3, 4, 5, 6, 7, 8, 9, 10, 12)


def counted_cubics(sides):
    """Some cubics whose walks come back behind just so many sides."""
    made = [counted_cubic(sides, Fraction(top, bottom)) for top, bottom in ((2, 1), (-1, 1), (3, 1), (1, 3), (-2, 5))]
    return [cubic for cubic in made if cubic is not None and cubic_fits(cubic)]


def pair_of_cubic(cubic):
    """An outer and an inner curve whose cubic is this one by another t, and a flag of them.

    The determinant of t times (0, 1, 0, 0, -1, 0) and (0, h, 1, g, 0, k) is -(kk + gkt + htt + ttt). Both have the
    point (1, 0, 0), so the line that touches the inner one there makes a flag with it, whatever the cubic is.
    """
    g, h, k = (Fraction(*number) for number in cubic)
    bottom = g.denominator * h.denominator * k.denominator
    inner = oracle_kept([int(number * bottom) for number in (0, h, 1, g, 0, k)])
    return ((0, 1, 0, 0, -1, 0), inner, ((1, 0, 0), (0, 1, 0)))


LOOSE_CUBICS = [
    ((1, 1), (1, 1), (2, 1)), ((-3, 1), (0, 1), (5, 1)), ((1, 2), (-1, 3), (1, 5)), ((7, 2), (9, 2), (2, 1)),
    ((0, 1), (1, 1), (-7, 2)), ((-5, 7), (11, 3), (-1, 9)), ((0, 1), (3, 1), (2, 1)),
]


def all_cubics():
    """Cubics whose walks come back, and some whose walks never do."""
    return [cubic for sides in COUNTS for cubic in counted_cubics(sides)] + LOOSE_CUBICS


def touching_flag():
    """A pair and a flag whose line touches both curves, the outer one in the flag's point."""
    points = circle_points(TABLES[1], 5)
    outer = curve_through(points)
    line = tangent(outer, points[2])
    inner = curve_touching([line, (1, 0, 0), (0, 1, 0), (2, 1, 1), (1, -3, 2)])
    return (outer, inner, (points[2], line))


def meeting_flag():
    """A pair and a flag whose point lies on both curves."""
    points = circle_points(TABLES[2], 5)
    inner = curve_through(points)
    outer = curve_through([points[1], (1, 0, 0), (0, 1, 0), (0, 0, 1), (1, 1, 2)])
    return (outer, inner, (points[1], tangent(inner, points[1])))


def flagged():
    """Pairs with a flag each: of small numbers, of forty figures, and with lines and points of both curves."""
    seeds = ((9, 2), (19, 2), (2, 2), (9, 3), (37, 3), (8, 4), (16, 9), (34, 9), (18, 20), (34, 99), (27, 99), (36, 99))
    made = [pair_with_flag(seed, most) for seed, most in seeds]
    return made + [pair_of_cubic(cubic) for cubic in all_cubics()] + [touching_flag(), meeting_flag()]
