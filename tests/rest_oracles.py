"""Clocks and walks by rests, reckoned for the tests by looking at all points and lines."""

from fractions import Fraction
from functools import lru_cache
from itertools import product
from math import gcd

from tests.oracles import matrix, oracle_kept, rows_worth, worth

SMALL_PRIMES = [3, 5, 7, 11, 13, 17, 19, 23, 29, 31]


def all_primes():
    return 3 * 5 * 7 * 11 * 13 * 17 * 19 * 23 * 29 * 31


def six_worth(six):
    """The determinant as point 7 writes it: half of that of the curve's table."""
    return Fraction(rows_worth(matrix(six)), 2)


def oracle_four(outer, inner):
    """The numbers w, u, v, r, found from what the mixed determinants are worth at 0, 1 and -1."""
    w, r = six_worth(inner), six_worth(outer)
    plus = six_worth([x + y for x, y in zip(outer, inner)])
    minus = six_worth([y - x for x, y in zip(outer, inner)])
    v = (plus + minus) / 2 - w
    return (w, plus - w - v - r, v, r)


def oracle_clocks(outer, inner):
    w, u, v, r = oracle_four(outer, inner)
    worth_of_pair = u * u * v * v - 4 * w * v ** 3 - 4 * u ** 3 * r - 27 * w * w * r * r + 18 * w * u * v * r
    return [prime for prime in SMALL_PRIMES if all(number % prime for number in (w, r, worth_of_pair))]


@lru_cache(maxsize=None)
def rest_threes(clock):
    threes = product(range(clock), repeat=3)
    return [three for three in threes if next((number for number in three if number), 0) == 1]


class Rests:
    """All that two curves have by the rests of a clock."""

    def __init__(self, outer, inner, clock):
        self.points = self.had(outer, clock)
        inside = self.had(inner, clock)
        # A line meets a curve in none, one or two points by rests, in one just where it touches.
        self.lines = [line for line in rest_threes(clock) if sum(self.meet(point, line, clock) for point in inside) == 1]
        self.flags = sorted(
            (point, line) for point in self.points for line in self.lines if self.meet(point, line, clock)
        )
        self.inside = inside

    @staticmethod
    def had(curve, clock):
        rests = [number % clock for number in curve]
        return [three for three in rest_threes(clock) if worth(rests, three) % clock == 0]

    @staticmethod
    def meet(point, line, clock):
        return sum(x * y for x, y in zip(point, line)) % clock == 0

    def after(self, flag):
        """The next flag: the line's other point, or itself, and the other line through that, or itself."""
        point, line = flag
        others = [there for there, along in self.flags if along == line and there != point] or [point]
        lines = [along for there, along in self.flags if there == others[0] and along != line] or [line]
        assert len(others) == 1 and len(lines) == 1
        return (others[0], lines[0])

    def orders(self):
        """The numbers of sides behind which the flags are there again, one by one."""
        after = {flag: self.after(flag) for flag in self.flags}
        told = []
        for first in self.flags:
            flag, sides = after[first], 1
            while flag != first:
                flag, sides = after[flag], sides + 1
            told.append(sides)
        return told


@lru_cache(maxsize=None)
def rests_of(outer, inner, clock):
    return Rests(outer, inner, clock)


@lru_cache(maxsize=None)
def oracle_order(outer, inner, clock):
    orders = rests_of(outer, inner, clock).orders()
    assert len(set(orders)) == 1 and orders[0] >= 3
    return orders[0]


def oracle_never(outer, inner):
    """The paper of two clocks with unlike orders, the least other one first looked for; None where there is none."""
    clocks = oracle_clocks(outer, inner)
    for other in clocks:
        for clock in clocks:
            if clock < other and oracle_order(outer, inner, clock) != oracle_order(outer, inner, other):
                return ("never", clock, other)
    return None


def moved(six, rows):
    """The curve of the points that a table of three rows takes to the curve's."""
    table = matrix(six)
    columns = list(zip(*rows))
    new = [[sum(one[i] * table[i][k] * other[k] for i in range(3) for k in range(3)) for other in columns]
           for one in columns]
    return oracle_kept([new[0][0], new[1][1], new[2][2], 2 * new[1][2], 2 * new[0][2], 2 * new[0][1]])


def through_gcd(count, steps):
    return count // gcd(count, steps)


# Two curves each, and the clocks that they have.
FEW_CLOCKS = [
    ((all_primes(), 1, -1, 0, 0, 0), (1, 2, -5, 0, 0, 0), []),
    ((1, 2, -5, 0, 0, 0), (all_primes(), 1, -1, 0, 0, 0), []),
    ((33426748355, 1, -1, 0, 0, 0), (1, 1, -1, 1, 0, 0), [3]),
    ((3234846615, 1, -1, 0, 0, 0), (1, 1, -1, 1, 0, 0), [31]),
    ((6685349671, 1, -1, 0, 0, 0), (1, 2, -1, 3, 0, 1), [3, 5]),
    ((1078282205, 1, -1, 0, 0, 0), (1, 1, -1, 2, 0, 1), [3, 31]),
]
