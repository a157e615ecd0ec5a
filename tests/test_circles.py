"""[22]: circles and the old rules."""

import unittest
from fractions import Fraction

from roundsides.circles import circle_curve, circles_rule
from roundsides.counts import ring_count
from roundsides.curves import curve_has, is_curve
from roundsides.pairs import is_pair
from tests.oracles import as_fraction, oracle_kept
from tests.support import CIRCLE, FORTY, Case, anything

NO_FRACTIONS = [thing for thing in anything() if thing != (1, 2)] + [
    2, (2, 2), (2, 0), (2, -1), (0, 2), (2, 1, 1), [2, 1], (True, 1), (2, True), ("2", 1), "2", "1/2", (2,), (4, 6),
]
GREAT = as_fraction(Fraction(10 ** 39 + 3, 10 ** 39 + 7))


def point_at(x, y):
    """The point (x, y, 1) of two fractions."""
    bottom = x.denominator * y.denominator
    return oracle_kept([int(x * bottom), int(y * bottom), bottom])


def middles():
    return [Fraction(*two) for two in ((0, 1), (1, 1), (-2, 1), (1, 2), (-3, 4), (7, 3), GREAT)]


def fuss_inner(outer, gap):
    return (outer - gap) ** 2 / (2 * (outer + gap))


class CircleCurve(Case):
    def test_examples(self):
        self.told(CIRCLE, circle_curve, (0, 1), (0, 1), (1, 1))
        self.told((1, 1, -4, 0, 0, 0), circle_curve, (0, 1), (0, 1), (4, 1))
        self.told((1, 1, -1, 0, 2, 0), circle_curve, (-1, 1), (0, 1), (2, 1))
        self.told((1, 1, -1, -2, 0, 0), circle_curve, (0, 1), (1, 1), (2, 1))
        self.told((2, 2, -2, -1, -3, 0), circle_curve, (3, 4), (1, 4), (13, 8))
        # About (1/2, -1/3, 1), the square 1/4: 1/4 + 1/9 - 1/4 is 1/9.
        self.told((9, 9, 1, 6, -9, 0), circle_curve, (1, 2), (-1, 3), (1, 4))
        self.told((3, 3, -1, 0, 0, 0), circle_curve, (0, 1), (0, 1), (1, 3))
        # Through its own origin.
        self.told((1, 1, 0, -8, -6, 0), circle_curve, (3, 1), (4, 1), (25, 1))

    def test_points_at_that_distance_and_no_others(self):
        for x in middles():
            for y in middles():
                for radius in (Fraction(1), Fraction(5, 3), Fraction(*GREAT)):
                    curve = circle_curve(as_fraction(x), as_fraction(y), as_fraction(radius * radius))
                    self.assertTrue(is_curve(curve))
                    for a, b in ((1, 0), (0, -1), (Fraction(3, 5), Fraction(4, 5)), (Fraction(-5, 13), Fraction(12, 13))):
                        self.assertTrue(curve_has(curve, point_at(x + a * radius, y + b * radius)))
                        self.assertFalse(curve_has(curve, point_at(x + a * radius * 2, y + b * radius * 2)))
                    self.assertFalse(curve_has(curve, point_at(x, y)))

    def test_squares_of_no_fraction(self):
        for square in ((2, 1), (1, 2), (3, 5), GREAT):
            for x in middles():
                s = Fraction(*square)
                numbers = (1, 1, x * x + 4 - s, -4, -2 * x, 0)
                bottom = x.denominator ** 2 * s.denominator
                wanted = oracle_kept([int(number * bottom) for number in numbers])
                self.told(wanted, circle_curve, as_fraction(x), (2, 1), square)

    def test_refused(self):
        for thing in NO_FRACTIONS:
            self.refused("NoCircle", circle_curve, thing, (0, 1), (1, 1))
            self.refused("NoCircle", circle_curve, (0, 1), thing, (1, 1))
            self.refused("NoCircle", circle_curve, (0, 1), (0, 1), thing)
            self.refused("NoCircle", circle_curve, thing, thing, thing)
        for square in ((0, 1), (-1, 1), (-1, 2), (-FORTY, 1)):
            self.refused("NoCircle", circle_curve, (0, 1), (0, 1), square)
            self.refused("NoCircle", circle_curve, (3, 2), (-1, 5), square)


class CirclesRule(Case):
    def test_examples(self):
        # Radii 2 and 3/4 and the distance 1: 4 - 1 is 2 by 2 by 3/4.
        self.told([3], circles_rule, (4, 1), (9, 16), (1, 1))
        self.told([3], circles_rule, (4, 1), (1, 1), (0, 1))
        self.told([4], circles_rule, (2, 1), (1, 1), (0, 1))
        # 9 is 2 by 9/10 by 5.
        self.told([4], circles_rule, (4, 1), (9, 10), (1, 1))
        self.told([], circles_rule, (4, 1), (2, 1), (1, 1))
        self.told([4], circles_rule, (4, 1), (2, 1), (4, 1))
        self.told([4], circles_rule, (1, 3), (7, 5), (1, 3))
        # The other circle that touches all three sides lies without: 4 less 10 is -2 by 2 by 3/2.
        self.told([3], circles_rule, (4, 1), (9, 4), (10, 1))

    def test_three(self):
        for top in (1, 2, 3, 7):
            for bottom in (1, 2, 5):
                for inner in (Fraction(1), Fraction(1, 2), Fraction(2, 7), Fraction(9, 10 ** 30)):
                    outer = Fraction(top, bottom)
                    for gap in (outer * outer - 2 * outer * inner, outer * outer + 2 * outer * inner):
                        handed = [as_fraction(number) for number in (outer * outer, inner * inner, gap)]
                        if gap >= 0:
                            self.told([3], circles_rule, *handed)
                            handed[2] = as_fraction(gap + Fraction(1, 10 ** 20 + 1))
                            self.told([], circles_rule, *handed)
                        else:
                            self.refused("NoCircle", circles_rule, *handed)

    def test_three_of_radii_that_are_no_fractions(self):
        self.told([3], circles_rule, (8, 1), (1, 2), (4, 1))
        self.told([3], circles_rule, (8, 1), (1, 2), (12, 1))
        self.told([], circles_rule, (8, 1), (1, 2), (5, 1))

    def test_four(self):
        for outer in (Fraction(1), Fraction(3), Fraction(5, 2), Fraction(*GREAT)):
            for gap in (Fraction(0), Fraction(1, 2), Fraction(4), Fraction(7, 3)):
                inner = fuss_inner(outer, gap)
                self.told([4], circles_rule, as_fraction(outer), as_fraction(inner), as_fraction(gap))
                near = inner + Fraction(1, 10 ** 20 + 1)
                self.told([], circles_rule, as_fraction(outer), as_fraction(near), as_fraction(gap))

    def test_the_distance_like_the_outer_radius(self):
        for outer in ((1, 1), (4, 1), (2, 3), GREAT):
            for inner in ((1, 1), (1, 7), (9, 2), GREAT):
                self.told([4], circles_rule, outer, inner, outer)

    def test_as_the_counts_tell(self):
        seen = []
        squares = [Fraction(*two) for two in ((1, 1), (4, 1), (2, 1), (9, 16), (9, 10), (9, 4), (25, 4), (1, 2), (8, 1))]
        for outer in squares:
            for x, y in ((1, 0), (1, 1), (2, 0), (Fraction(1, 2), 0), (2, 2), (Fraction(5, 2), 0)):
                gap = Fraction(x * x + y * y)
                inners = squares + ([fuss_inner(outer, gap)] if outer != gap else [])
                inners += [(outer - gap) ** 2 / (4 * outer)] if outer != gap else []
                for inner in inners:
                    one = circle_curve((0, 1), (0, 1), as_fraction(outer))
                    other = circle_curve(as_fraction(Fraction(x)), as_fraction(Fraction(y)), as_fraction(inner))
                    if is_pair(one, other):
                        count = ring_count(one, other)
                        rule = [count] if count in (3, 4) else []
                        self.told(rule, circles_rule, as_fraction(outer), as_fraction(inner), as_fraction(gap))
                        seen += rule or [0]
        self.assertTrue(seen.count(3) > 20 and seen.count(4) > 20 and seen.count(0) > 100, seen)

    def test_refused(self):
        for thing in NO_FRACTIONS:
            self.refused("NoCircle", circles_rule, thing, (1, 1), (1, 1))
            self.refused("NoCircle", circles_rule, (1, 1), thing, (1, 1))
            self.refused("NoCircle", circles_rule, (1, 1), (1, 1), thing)
            self.refused("NoCircle", circles_rule, thing, thing, thing)
        for bad in ((0, 1), (-1, 1), (-3, 2), (-FORTY, 7)):
            self.refused("NoCircle", circles_rule, bad, (1, 1), (1, 1))
            self.refused("NoCircle", circles_rule, (1, 1), bad, (1, 1))
            if bad[0] < 0:
                self.refused("NoCircle", circles_rule, (1, 1), (1, 1), bad)
        self.told([], circles_rule, (1, 1), (1, 1), (0, 1))

    def test_lists_told_are_the_askers_own(self):
        first, second = circles_rule((4, 1), (9, 16), (1, 1)), circles_rule((4, 1), (9, 16), (1, 1))
        first.append(4)
        second.clear()
        self.told([3], circles_rule, (4, 1), (9, 16), (1, 1))


if __name__ == "__main__":
    unittest.main()
