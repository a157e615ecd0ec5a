"""Rings made: curves for corners told, and cubics and curves for counts."""

from roundsides.curves import curve_through, curve_touching, fraction_curve
from roundsides.errors import NoBottom, NoCubic, NoCurve, NoFraction, NoPair, NoSides, NoTriple
from roundsides.fracs import frac_by, frac_less, frac_sum, frac_times, is_fraction
from roundsides.pairs import need_cubic, need_pair
from roundsides.points import crossed, is_triple, joined
from roundsides.walks import other_meet
from roundsides.wholes import is_whole

NOUGHT = (0, 1)
ONE = (1, 1)


def need_triples(things, least, most):
    """Refuses what is no list of so many triples."""
    if not isinstance(things, list) or len(things) < least or len(things) > most:
        raise NoTriple("this is no list of as many triples")
    if not all([is_triple(thing) for thing in things]):
        raise NoTriple("this is no list of triples")


def ring_curves(corners, points, lines):
    """The curve through all corners and points, and the one that all sides of the ring and all lines touch."""
    need_triples(corners, 3, 5)
    left = 5 - len(corners)
    need_triples(points, left, left)
    need_triples(lines, left, left)
    # Behind this one all corners are unlike, so each two of them have a side.
    outer = curve_through(corners + points)
    sides = [joined(one, other) for one, other in zip(corners, corners[1:] + corners[:1])]
    inner = curve_touching(sides + lines)
    need_pair(outer, inner)
    return (outer, inner)


def six_curves(corners):
    """The curves of a ring of six corners, of which five are told, and the sixth corner."""
    outer = curve_through(corners)
    first, second, third, fourth, fifth = corners
    middle = crossed(joined(first, fourth), joined(second, fifth))
    # The three lines between corners that face one another meet in one point: so the six sides touch one curve
    # (Brianchon).
    sixth = other_meet(outer, third, joined(third, middle))
    if sixth in corners:
        raise NoCurve("the sixth corner is one of the five")
    ring = corners + [sixth]
    inner = curve_touching([joined(one, other) for one, other in zip(ring, ring[1:])])
    need_pair(outer, inner)
    return (outer, inner, sixth)


def worth_of(numbers, t):
    """The worth of whole numbers at the powers of a fraction, the lowest power first."""
    worth = NOUGHT
    for number in numbers[::-1]:
        worth = frac_sum(frac_times(worth, t), (number, 1))
    return worth


def shape_of_4(t):
    """The fractions b and c for four sides."""
    return (t, NOUGHT)


def shape_of_5(t):
    """The fractions b and c for five sides."""
    return (t, t)


def shape_of_6(t):
    """The fractions b and c for six sides."""
    return (worth_of((0, 1, 1), t), t)


def shape_of_7(t):
    """The fractions b and c for seven sides."""
    return (worth_of((0, 0, -1, 1), t), worth_of((0, -1, 1), t))


def shape_of_8(t):
    """The fractions b and c for eight sides."""
    b = frac_times(worth_of((-1, 2), t), worth_of((-1, 1), t))
    return (b, frac_by(b, t))


def shape_of_9(t):
    """The fractions b and c for nine sides."""
    c = worth_of((0, 0, -1, 1), t)
    return (frac_times(c, worth_of((1, -1, 1), t)), c)


def shape_of_10(t):
    """The fractions b and c for ten sides."""
    less = worth_of((-1, 1), t)
    w = frac_less(t, frac_times(less, less))
    c = frac_by(frac_times(frac_times(t, less), worth_of((-1, 2), t)), w)
    return (frac_by(frac_times(c, frac_times(t, t)), w), c)


def shape_of_12(t):
    """The fractions b and c for twelve sides."""
    less = worth_of((-1, 1), t)
    top = frac_times(worth_of((1, -3, 3), t), worth_of((0, 1, -2), t))
    c = frac_by(top, frac_times(less, frac_times(less, less)))
    return (frac_by(frac_times(c, worth_of((-1, 2, -2), t)), less), c)


SHAPES = {
    4: shape_of_4, 5: shape_of_5, 6: shape_of_6, 7: shape_of_7, 8: shape_of_8, 9: shape_of_9, 10: shape_of_10,
    12: shape_of_12,
}


def shaped_cubic(b, c):
    """The three fractions of the cubic of the fractions b and c."""
    less = frac_less(ONE, c)
    square = frac_times(b, b)
    return (
        frac_by(frac_times((-2, 1), less), b),
        frac_by(frac_less(frac_times(less, less), frac_times((4, 1), b)), square),
        frac_by((4, 1), square),
    )


def cubic_for(sides, t):
    """Three fractions whose walks come back behind so many sides, where they are a cubic."""
    if sides == 3:
        return (frac_times((2, 1), t), frac_times(t, t), ONE)
    shape = SHAPES[sides]
    b, c = shape(t)
    return shaped_cubic(b, c)


def count_cubic(sides, t):
    """A cubic whose walks come back behind just so many sides, one for each fraction."""
    if not is_whole(sides) or (sides != 3 and sides not in SHAPES):
        raise NoSides("no cubics are made for this")
    if not is_fraction(t):
        raise NoFraction("this is no fraction")
    try:
        cubic = cubic_for(sides, t)
    except NoBottom:
        raise NoCubic("something is taken through 0 for this fraction") from None
    need_cubic(cubic)
    return cubic


def cubic_curves(cubic):
    """An outer and an inner curve whose walks come back as the cubic tells."""
    need_cubic(cubic)
    g, h, k = cubic
    e = frac_less(k, frac_times(g, h))
    if e == NOUGHT:
        raise NoPair("this cubic makes no outer curve")
    lead = frac_by(frac_less(NOUGHT, h), e)
    return (fraction_curve((lead, g, e, NOUGHT, NOUGHT, (2, 1))), (0, 1, 0, 0, 2, 0))
