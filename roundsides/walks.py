"""Walks: corners on an outer curve, each with a side that touches an inner one."""

from roundsides.curves import determinant, dual_curve, meets, worth_at
from roundsides.errors import NoFlag
from roundsides.pairs import need_pair
from roundsides.points import are_two_triples, dot
from roundsides.wholes import common_divisor, first_sign, need_within


def is_flag(outer, inner, thing):
    """Whether anything is a flag of a pair."""
    need_pair(outer, inner)
    return fits(outer, dual_curve(inner), thing)


def fits(outer, dual, thing):
    """Whether anything is a flag of an outer curve and of the inner one whose dual is handed in."""
    if not are_two_triples(thing):
        return False
    point, line = thing
    return dot(point, line) == 0 and worth_at(outer, point) == 0 and worth_at(dual, line) == 0


def dual_with_flag(outer, inner, flag):
    """The inner curve's dual; refuses what are no pair, then what is no flag of it."""
    need_pair(outer, inner)
    dual = dual_curve(inner)
    if not fits(outer, dual, flag):
        raise NoFlag("this is no flag of these curves")
    return dual


def other_meet(curve, point, line):
    """The other point in which a line meets a curve that it meets in the point; the point itself where it touches."""
    points = meets(curve, line)
    # The product of two triples has no common divisor above 1 (Gauss), so that of the six numbers alone is to be
    # taken out. It divides the determinant, which is small beside numbers of a long walk.
    divisor = determinant(curve)
    for part in points:
        divisor = common_divisor(part, divisor)
    other = quotient([part // divisor for part in points], point)
    sign = first_sign(other)
    return tuple([sign * number for number in other])


def quotient(six, one):
    """The three numbers whose product with one triple is the six numbers of both, number by number."""
    squares = six[:3]
    mixed = ((0, six[5], six[4]), (six[5], 0, six[3]), (six[4], six[3], 0))
    lead = min([at for at in range(3) if one[at] != 0])
    first = squares[lead] // one[lead]
    return [first if at == lead else (mixed[lead][at] - one[at] * first) // one[lead] for at in range(3)]


def step_on(outer, dual, flag):
    """The next flag."""
    point, line = flag
    other_point = other_meet(outer, point, line)
    # Lines that touch the inner curve are points of its dual, and those through a point lie there on one line.
    return (other_point, other_meet(dual, line, other_point))


def next_flag(outer, inner, flag):
    """The flag of the line's other point and of the other line through that."""
    return step_on(outer, dual_with_flag(outer, inner, flag), flag)


def flag_back(outer, inner, flag):
    """The flag of which a flag is the next one."""
    dual = dual_with_flag(outer, inner, flag)
    point, line = flag
    other_line = other_meet(dual, line, point)
    return (other_meet(outer, point, other_line), other_line)


def walk(outer, inner, flag, many):
    """The list of many + 1 flags from a flag on, each the next one of the one ahead."""
    dual = dual_with_flag(outer, inner, flag)
    need_within(many, 0, 30)
    flags = [flag]
    for side in range(many):
        flags.append(step_on(outer, dual, flags[side]))
    return flags
