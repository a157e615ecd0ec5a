"""Points and lines: triples of whole numbers that stand for all their products."""

from roundsides.errors import Alike, NoTriple
from roundsides.wholes import are_kept, are_wholes, kept


def is_triple(thing):
    """Whether anything is a triple."""
    return are_wholes(thing, 3) and are_kept(thing)


def are_two_triples(thing):
    """Whether anything is a tuple of two triples."""
    return isinstance(thing, tuple) and len(thing) == 2 and all([is_triple(part) for part in thing])


def kept_triple(three):
    """The triple that three whole numbers, not all 0, are times one fraction."""
    if not are_wholes(three, 3) or three == (0, 0, 0):
        raise NoTriple("these are no three whole numbers, or all 0")
    return kept(three)


def need_triple(thing):
    """Refuses what is no triple."""
    if not is_triple(thing):
        raise NoTriple("this is no triple")


def dot(one, other):
    """The sum of the products of two triples, number by number."""
    return one[0] * other[0] + one[1] * other[1] + one[2] * other[2]


def cross(one, other):
    """Three numbers whose dot with each of the two is 0: all 0 just where these are like ones, and not kept."""
    return (
        one[1] * other[2] - one[2] * other[1],
        one[2] * other[0] - one[0] * other[2],
        one[0] * other[1] - one[1] * other[0],
    )


def joined(one, other):
    """The line on which two unlike points lie."""
    need_triple(one)
    need_triple(other)
    if one == other:
        raise Alike("these two are alike")
    return kept(cross(one, other))


def crossed(one, other):
    """The point in which two unlike lines meet."""
    return joined(one, other)


def lies_on(point, line):
    """Whether the point lies on the line."""
    need_triple(point)
    need_triple(line)
    return dot(point, line) == 0
