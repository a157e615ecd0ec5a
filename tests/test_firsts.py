"""[21]: points in which lines meet curves, and first flags."""

import unittest
from itertools import product
from math import isqrt

from roundsides.curves import curve_has, curve_through, curve_touches
from roundsides.firsts import first_flags, line_meets
from roundsides.pairs import is_pair
from roundsides.points import is_triple, joined, lies_on
from roundsides.walks import is_flag
from tests.oracles import TABLES, circle_points, curves, flagged, oracle_kept, pair_with_flag, tangent, worth
from tests.support import (
    CIRCLE, FORTY, NO_CURVES, NO_NUMBERS, NO_PAIRS, NO_TRIPLES, THIRTY, Case, number_row,
)

OUTER, INNER = (1, 1, -25, 0, 0, 0), (4, 1, -36, 0, 0, 0)


def oracle_meets(curve, line):
    """The points of a line on a curve: one number of a point is told by the other two, which solve a square equation."""
    last = max(at for at in range(3) if line[at])
    others = [at for at in range(3) if at != last]

    def point(x, y):
        three = [0, 0, 0]
        three[others[0]], three[others[1]] = x * line[last], y * line[last]
        three[last] = -(line[others[0]] * x + line[others[1]] * y)
        return tuple(three)

    a, c = worth(curve, point(1, 0)), worth(curve, point(0, 1))
    b = worth(curve, point(1, 1)) - a - c
    under = b * b - 4 * a * c
    if under < 0 or isqrt(under) ** 2 != under:
        return []
    root = isqrt(under)
    # Both (root - b, 2a) and (2c, -b - root) solve it where they are not (0, 0), and so with the root below 0.
    solved = [(root - b, 2 * a), (2 * c, -b - root), (-root - b, 2 * a), (2 * c, root - b)]
    return sorted({oracle_kept(point(x, y)) for x, y in solved if (x, y) != (0, 0)})


def small_lines(most):
    return [three for three in product(range(-most, most + 1), repeat=3) if is_triple(three)]


def oracle_flags(outer, inner, most):
    lines = [line for line in small_lines(most) if curve_touches(inner, line)]
    return sorted((point, line) for line in lines for point in oracle_meets(outer, line))


def pairs_with_small_lines():
    return [
        (OUTER, INNER), ((1, 1, -2, 0, 0, 0), (1, 2, -1, 0, 0, 0)), ((0, 1, 0, 0, -1, 0), (0, 1, 1, -2, 0, 1)),
        ((1, 1, -5, 0, 0, 0), (1, 4, -4, 0, 0, 0)), ((1, 1, -4, 0, 0, 0), (1, 1, -1, 0, 2, 0)),
        ((1, 1, -4, 0, 0, 0), (1, 2, -2, 0, 0, 0)),
    ] + [two[:2] for two in flagged()]


class LineMeets(Case):
    def test_examples(self):
        self.told([(1, 0, 1)], line_meets, CIRCLE, (1, 0, -1))
        self.told([(0, 1, -1), (0, 1, 1)], line_meets, CIRCLE, (1, 0, 0))
        self.told([(0, 1, 1), (1, 0, 1)], line_meets, CIRCLE, (1, 1, -1))
        self.told([(1, 0, -1), (3, 4, 5)], line_meets, CIRCLE, (1, -2, 1))
        # Where xx is twice zz, where nothing real is met, and where all is far out.
        self.told([], line_meets, CIRCLE, (1, -1, 0))
        self.told([], line_meets, CIRCLE, (1, 0, -2))
        self.told([], line_meets, CIRCLE, (0, 0, 1))
        self.told([(0, 0, 1), (1, 0, 0)], line_meets, (0, 1, 0, 0, 2, 0), (0, 1, 0))
        self.told([(1, 0, 0)], line_meets, (0, 1, 0, 0, 2, 0), (0, 0, 1))
        self.told([(0, 0, 1)], line_meets, (0, 1, 0, 0, 2, 0), (1, 0, 0))

    def test_all_small_lines(self):
        seen = [0, 0, 0]
        for curve in curves()[:11]:
            for line in small_lines(3):
                points = oracle_meets(curve, line)
                self.assertEqual(line_meets(curve, line), points)
                self.assertTrue(all(curve_has(curve, point) and lies_on(point, line) for point in points))
                self.assertEqual(len(points) == 1, curve_touches(curve, line))
                seen[len(points)] += 1
        self.assertTrue(min(seen) > 20, seen)

    def test_two_points_told(self):
        for rows in TABLES:
            points = circle_points(rows, 7)
            curve = curve_through(points[:5])
            for at, one in enumerate(points):
                for other in points[:at]:
                    self.told(sorted([one, other]), line_meets, curve, joined(one, other))

    def test_where_it_touches(self):
        for rows in TABLES:
            points = circle_points(rows, 7)
            curve = curve_through(points[:5])
            for point in points:
                self.told([point], line_meets, curve, tangent(curve, point))

    def test_none_of_many_figures(self):
        for curve in curves():
            for seed in range(3):
                line = oracle_kept(number_row(40 + seed, 3, 10 ** 30 - 1))
                self.told(oracle_meets(curve, line), line_meets, curve, line)

    def test_many_figures(self):
        # Where the square of FORTY times xx is yy, where it is one less or more than a square, and where all is above 0.
        self.told([(1, -FORTY, 0), (1, FORTY, 0)], line_meets, (FORTY * FORTY, -1, 1, 0, 0, 0), (0, 0, 1))
        self.told([], line_meets, (FORTY * FORTY - 1, -1, 1, 0, 0, 0), (0, 0, 1))
        self.told([], line_meets, (FORTY * FORTY + 1, -1, 1, 0, 0, 0), (0, 0, 1))
        self.told([], line_meets, (FORTY * FORTY, 1, 1, 0, 0, 0), (0, 0, 1))
        self.told([(1, THIRTY, THIRTY * THIRTY)], line_meets, (0, 1, 0, 0, -1, 0), (THIRTY * THIRTY, -2 * THIRTY, 1))
        self.told([(1, 0, 0), (1, THIRTY, THIRTY ** 2)], line_meets, (0, 1, 0, 0, -1, 0), (0, THIRTY, -1))

    def test_refused(self):
        for thing in NO_CURVES:
            self.refused("NoCurve", line_meets, thing, (1, 0, 0))
            self.refused("NoCurve", line_meets, thing, None)
            self.refused("NoCurve", line_meets, thing, thing)
        for thing in NO_TRIPLES:
            self.refused("NoTriple", line_meets, CIRCLE, thing)


class FirstFlags(Case):
    def test_examples(self):
        # The line x = 3z, x = -3z, then with y = 6z and y = -6z, which meet no point of the circle.
        self.told([], first_flags, OUTER, INNER, 1)
        self.told([], first_flags, OUTER, INNER, 2)
        sides = [((3, -4, -1), (1, 0, 3)), ((3, -4, 1), (1, 0, -3)), ((3, 4, -1), (1, 0, 3)), ((3, 4, 1), (1, 0, -3))]
        self.told(sides, first_flags, OUTER, INNER, 3)
        self.told(sides, first_flags, OUTER, INNER, 4)

    def test_all_of_them_rising(self):
        found = [0] * 5
        for outer, inner in pairs_with_small_lines():
            for most in (1, 2, 3, 4):
                flags = oracle_flags(outer, inner, most)
                self.told(flags, first_flags, outer, inner, most)
                self.assertEqual(flags, sorted(set(flags)))
                self.assertTrue(all(is_flag(outer, inner, flag) for flag in flags))
                found[most] += len(flags)
        self.assertTrue(0 < found[1] < found[2] < found[3] < found[4], found)

    def test_by_points_then_lines(self):
        for outer, inner in pairs_with_small_lines():
            flags = first_flags(outer, inner, 4)
            for (one, first), (other, second) in zip(flags, flags[1:]):
                self.assertTrue(one < other or (one == other and first < second))

    def test_points_may_have_great_numbers(self):
        outer, inner, _ = pair_with_flag(9, 2)
        self.assertTrue(any(abs(number) > 4 for point, _ in first_flags(outer, inner, 4) for number in point))

    def test_flags_of_small_lines_are_among_them(self):
        for outer, inner, (point, line) in flagged():
            most = max(abs(number) for number in line)
            for bound in range(1, 5):
                self.assertEqual((point, line) in first_flags(outer, inner, bound), most <= bound)

    def test_many_figures(self):
        made = 0
        for outer, inner, flag in flagged():
            if max(abs(number) for number in outer + inner) > 10 ** 12:
                self.told(oracle_flags(outer, inner, 4), first_flags, outer, inner, 4)
                made += 1
        self.assertGreater(made, 2)
        self.told([], first_flags, (FORTY, 1, -1, 0, 0, 0), (1, FORTY + 2, 3, 1, 1, 1), 4)

    def test_bounds(self):
        self.assertTrue(is_pair(OUTER, INNER))
        for bad in NO_NUMBERS + [0, 5, 6, -1, -4, 100]:
            self.refused("TooMany", first_flags, OUTER, INNER, bad)

    def test_refused(self):
        for thing in NO_CURVES:
            self.refused("NoCurve", first_flags, thing, INNER, 2)
            self.refused("NoCurve", first_flags, OUTER, thing, 2)
            self.refused("NoCurve", first_flags, thing, thing, thing)
        for one, other in NO_PAIRS:
            for most in (2, 0, 5, None, True):
                self.refused("NoPair", first_flags, one, other, most)
                self.refused("NoPair", first_flags, other, one, most)
        for bad in (0, 5, None, True):
            self.refused("NoCurve", first_flags, None, CIRCLE, bad)
            self.refused("NoCurve", first_flags, CIRCLE, None, bad)


class Untouched(Case):
    def test_lists_told_are_the_askers_own(self):
        first, second = line_meets(CIRCLE, (1, 1, -1)), line_meets(CIRCLE, (1, 1, -1))
        first.clear()
        second.append(None)
        self.told([(0, 1, 1), (1, 0, 1)], line_meets, CIRCLE, (1, 1, -1))
        wanted = oracle_flags(OUTER, INNER, 4)
        first, second = first_flags(OUTER, INNER, 4), first_flags(OUTER, INNER, 4)
        first.reverse()
        second[0] = None
        self.told(wanted, first_flags, OUTER, INNER, 4)


if __name__ == "__main__":
    unittest.main()
