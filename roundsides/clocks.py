"""Clocks: small primes by whose rests the walks of a pair can all be gone."""

from roundsides.curves import dual_curve, meets, worth_at
from roundsides.errors import NoClock, NoFlag
from roundsides.pairs import discriminant, mixed_worths, need_pair
from roundsides.points import dot
from roundsides.walks import quotient
from roundsides.wholes import are_wholes

PRIMES = (3, 5, 7, 11, 13, 17, 19, 23, 29, 31)


def clocks_of(outer, inner):
    """The rising list of the clocks of a pair."""
    need_pair(outer, inner)
    four = mixed_worths(outer, inner)
    # The first and the last of the four are the determinants of both curves.
    barred = four[0] * four[3] * discriminant(four)
    return [prime for prime in PRIMES if barred % prime != 0]


def need_clock(outer, inner, clock):
    """Refuses what are no pair, then what is no clock of it."""
    if clock not in clocks_of(outer, inner):
        raise NoClock("this is no clock of these curves")


def rests(numbers, clock):
    """The rests of numbers by a clock."""
    return tuple([number % clock for number in numbers])


def rest_curves(outer, inner, clock):
    """The rests of the outer curve and of the inner one's dual, by which flags are told."""
    # A clock does not divide the inner curve's determinant, so its dual stays a curve by the rests too.
    return (rests(outer, clock), rests(dual_curve(inner), clock))


def rest_triples(clock):
    """The rising list of all triples by the rests of a clock."""
    last = [(0, 0, 1)]
    middle = [(0, 1, z) for z in range(clock)]
    return last + middle + [(1, y, z) for y in range(clock) for z in range(clock)]


def rest_kept(three, clock):
    """The triple by rests of which three numbers, not all of rest 0, are a product."""
    lead = [number for number in rests(three, clock) if number != 0][0]
    inverse = [number for number in range(1, clock) if number * lead % clock == 1][0]
    return rests([inverse * number for number in three], clock)


def on_curve(curve, clock):
    """The rising list of the triples that a curve has by the rests of a clock."""
    return [three for three in rest_triples(clock) if worth_at(curve, three) % clock == 0]


def rest_flags(outer, inner, clock):
    """The rising list of all rest flags."""
    need_clock(outer, inner, clock)
    curve, dual = rest_curves(outer, inner, clock)
    lines = on_curve(dual, clock)
    return [(point, line) for point in on_curve(curve, clock) for line in lines if dot(point, line) % clock == 0]


def is_rest_triple(thing, clock):
    """Whether anything is a triple by the rests of a clock."""
    return are_wholes(thing, 3) and rests(thing, clock) == thing and [part for part in thing if part != 0][:1] == [1]


def fits_by_rests(curve, dual, clock, thing):
    """Whether anything is a rest flag of an outer curve and of the inner one whose dual is handed in."""
    if not isinstance(thing, tuple) or len(thing) != 2 or not all([is_rest_triple(part, clock) for part in thing]):
        return False
    point, line = thing
    worths = (dot(point, line), worth_at(curve, point), worth_at(dual, line))
    return rests(worths, clock) == (0, 0, 0)


def rest_other(curve, clock, point, line):
    """The other point in which a line meets a curve by rests; the point itself where it touches."""
    # The first number of the point that is not 0 is 1: quotient divides by that alone, so it holds by rests too.
    return rest_kept(quotient(meets(curve, line), point), clock)


def rest_step(curve, dual, clock, flag):
    """The next rest flag."""
    point, line = flag
    other_point = rest_other(curve, clock, point, line)
    return (other_point, rest_other(dual, clock, line, other_point))


def rest_next(outer, inner, clock, flag):
    """The rest flag of the line's other point and of the other line through that."""
    need_clock(outer, inner, clock)
    curve, dual = rest_curves(outer, inner, clock)
    if not fits_by_rests(curve, dual, clock, flag):
        raise NoFlag("this is no rest flag of these curves")
    return rest_step(curve, dual, clock, flag)


def rest_order(outer, inner, clock):
    """The least number of sides behind which each rest flag is there again."""
    first = rest_flags(outer, inner, clock)[0]
    curve, dual = rest_curves(outer, inner, clock)
    # The curves meet in four unlike points by rests too, so no flag is there again behind one side or two.
    flag = rest_step(curve, dual, clock, first)
    sides = 1
    while flag != first:
        flag = rest_step(curve, dual, clock, flag)
        sides += 1
    return sides
