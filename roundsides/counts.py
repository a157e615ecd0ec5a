"""Counts: behind how many sides all walks of a pair come back, and papers that show it."""

from roundsides.clocks import clocks_of, rest_order
from roundsides.errors import NoClock
from roundsides.pairs import need_pair, pair_cubic
from roundsides.rows import comes_back
from roundsides.wholes import is_whole

# Walks of curves of whole numbers that come back at all do so behind one of these numbers of sides (Mazur).
COUNTS = (3, 4, 5, 6, 7, 8, 9, 10, 12)

PAPER_FORMS = (("back", 2), ("never", 3))


def ring_count(outer, inner):
    """The least number of sides behind which every walk of a pair is at its first flag again, or None."""
    cubic = pair_cubic(outer, inner)
    # Where walks come back their count is the order of every clock: a few clocks spare most of the long tables.
    orders = [rest_order(outer, inner, clock) for clock in clocks_of(outer, inner)[:3]]
    for sides in COUNTS:
        if all([order == sides for order in orders]) and comes_back(cubic, sides):
            return sides
    return None


def ring_paper(outer, inner):
    """A paper that shows the count of a pair, or that no walk of it ever comes back."""
    count = ring_count(outer, inner)
    if count is not None:
        return ("back", count)
    clocks = clocks_of(outer, inner)
    # Up to the first clock whose order is unlike the least one's all orders are alike: so these two are the least.
    for other in clocks[1:]:
        if are_unlike(outer, inner, clocks[0], other):
            return ("never", clocks[0], other)
    raise NoClock("no two clocks of these curves have unlike orders")


def are_unlike(outer, inner, clock, other):
    """Whether two clocks of a pair have unlike orders."""
    return rest_order(outer, inner, clock) != rest_order(outer, inner, other)


def is_paper(thing):
    """Whether anything is a paper of whole numbers from 0 on."""
    if not isinstance(thing, tuple) or thing == () or (thing[0], len(thing)) not in PAPER_FORMS:
        return False
    return all([is_whole(number) and number >= 0 for number in thing[1:]])


def judge_paper(outer, inner, paper):
    """Whether anything is a paper that shows the count of a pair, or that no walk of it ever comes back."""
    need_pair(outer, inner)
    if not is_paper(paper):
        return False
    if paper[0] == "back":
        # No other number of sides up to 24 is the least one behind which walks come back.
        return paper[1] == ring_count(outer, inner)
    clock, other = paper[1:]
    clocks = clocks_of(outer, inner)
    return clock < other and clock in clocks and other in clocks and are_unlike(outer, inner, clock, other)
