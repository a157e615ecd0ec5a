"""[10]: pairs and their cubics."""

import unittest
from fractions import Fraction

from roundsides.curves import curve_through, is_curve
from roundsides.fracs import is_fraction
from roundsides.pairs import is_pair, pair_cubic
from roundsides.points import joined
from tests.oracles import (
    TABLES, all_cubics, as_fraction, circle_points, cubic_fits, curves, flagged, matrix, oracle_kept, pair_of_cubic,
    rows_worth, tangent,
)
from tests.support import CIRCLE, FORTY, NO_CURVES, NO_PAIRS, Case


def product(one, other):
    """The six numbers of the points of two lines."""
    numbers = [one[k] * other[k] for k in range(3)]
    return numbers + [one[i] * other[k] + one[k] * other[i] for i, k in ((1, 2), (0, 2), (0, 1))]


def mixed(curve, six, much):
    return oracle_kept([x + much * y for x, y in zip(curve, six)])


def times(one, other):
    """The product of two polynomials, the lowest number first."""
    row = [Fraction(0)] * (len(one) + len(other) - 1)
    for i, x in enumerate(one):
        for k, y in enumerate(other):
            row[i + k] += x * y
    return row


def quartic(rows, six):
    """What the six numbers are worth along the circle moved by a table: five numbers."""
    along = [[row[1] + row[2], 2 * row[0], row[2] - row[1]] for row in rows]
    table = matrix(six)
    worth = [Fraction(0)] * 5
    for i in range(3):
        for k in range(3):
            worth = [x + table[i][k] * y for x, y in zip(worth, times(along[i], along[k]))]
    return worth


def rest(one, other):
    """What is left of a polynomial where multiples of another one are taken from it."""
    one = list(one)
    while len(one) >= len(other):
        much = one[-1] / other[-1]
        for k in range(len(other)):
            one[len(one) - len(other) + k] -= much * other[k]
        one.pop()
    return shortened(one)


def shortened(row):
    row = list(row)
    while row and row[-1] == 0:
        row.pop()
    return row


def four_unlike(numbers):
    """Whether a polynomial of fourth kind has four unlike roots, the one far out counted where the fifth one is 0."""
    one = shortened(numbers)
    if len(one) < 4:
        return False
    other = shortened([k * number for k, number in enumerate(one)][1:])
    while other:
        one, other = other, rest(one, other)
    return len(one) == 1


def worth_by(outer, inner, t):
    return Fraction(rows_worth(matrix([t * x + y for x, y in zip(outer, inner)])), 2)


class IsPair(Case):
    def test_examples(self):
        self.told(True, is_pair, (1, 1, -4, 0, 0, 0), (1, 1, -1, 0, 2, 0))
        self.told(True, is_pair, CIRCLE, (4, 1, -2, 0, 0, 0))
        self.told(False, is_pair, CIRCLE, (4, 1, -1, 0, 0, 0))
        self.told(False, is_pair, CIRCLE, (1, 1, -4, 0, 0, 0))

    def test_no_pairs(self):
        for one, other in NO_PAIRS:
            self.told(True, is_curve, one)
            self.told(True, is_curve, other)
            self.told(False, is_pair, one, other)
            self.told(False, is_pair, other, one)

    def test_no_curve_is_a_pair_with_itself(self):
        for curve in curves():
            self.told(False, is_pair, curve, curve)

    def test_as_the_points_along_a_curve_tell(self):
        seen = []
        for rows in TABLES:
            curve = curve_through(circle_points(rows, 5))
            for other in curves():
                whether = four_unlike(quartic(rows, other))
                self.told(whether, is_pair, curve, other)
                self.told(whether, is_pair, other, curve)
                seen.append(whether)
        self.assertIn(True, seen)
        self.assertIn(False, seen)

    def test_curves_that_touch_once_twice_or_closer_are_none(self):
        for rows in TABLES:
            first, second, third, fourth = circle_points(rows, 4)
            curve = curve_through(circle_points(rows, 5))
            touches = tangent(curve, first)
            for much in (1, -3, 7):
                for one, other, whether in (
                    (joined(first, second), joined(third, fourth), True),
                    (touches, joined(second, third), False),
                    (touches, joined(first, second), False),
                    (touches, tangent(curve, second), False),
                    (touches, touches, False),
                    (joined(first, second), joined(first, third), False),
                    (joined(first, second), joined(first, second), False),
                ):
                    met = mixed(curve, product(one, other), much)
                    if is_curve(met):
                        self.assertEqual(four_unlike(quartic(rows, met)), whether)
                        self.told(whether, is_pair, curve, met)
                        self.told(whether, is_pair, met, curve)

    def test_refused(self):
        for thing in NO_CURVES:
            self.refused("NoCurve", is_pair, thing, CIRCLE)
            self.refused("NoCurve", is_pair, CIRCLE, thing)
            self.refused("NoCurve", is_pair, thing, thing)


class PairCubic(Case):
    def test_examples(self):
        # The determinant of t times (1, 1, -4, 0, 0, 0), and (1, 1, -1, 0, 2, 0), is -16ttt - 36tt - 28t - 8.
        self.told(((7, 2), (9, 2), (2, 1)), pair_cubic, (1, 1, -4, 0, 0, 0), (1, 1, -1, 0, 2, 0))
        # The other way round it is that of 1 by t: each number through the last, from behind.
        self.told(((9, 4), (7, 4), (1, 2)), pair_cubic, (1, 1, -1, 0, 2, 0), (1, 1, -4, 0, 0, 0))
        # Without mixed numbers it is (1 + t)(1 + 2t)(1 - 3t).
        self.told(((0, 1), (-7, 1), (-6, 1)), pair_cubic, (1, 2, -3, 0, 0, 0), (1, 1, 1, 0, 0, 0))

    def test_as_the_determinants_tell(self):
        tried = 0
        made = curves()
        for one, other in list(zip(made, made[1:])) + list(zip(made[3:], made)) + [two[:2] for two in flagged()]:
            if not is_pair(one, other):
                self.refused("NoPair", pair_cubic, one, other)
                continue
            tried += 1
            cubic = pair_cubic(one, other)
            self.assertIs(type(cubic), tuple)
            self.assertTrue(all(is_fraction(part) for part in cubic))
            self.told(cubic, pair_cubic, one, other)
            self.assertTrue(cubic_fits(cubic))
            g, h, k = (Fraction(*part) for part in cubic)
            for t in (-3, -2, -1, 0, 1, 2, 5, 100):
                by_table = worth_by(one, other, t) / worth_by(one, other, 0)
                self.assertEqual(1 + g * t + h * t ** 2 + k * t ** 3, by_table)
        self.assertGreater(tried, 60)

    def test_curves_made_for_a_cubic(self):
        for cubic in all_cubics():
            outer, inner, _ = pair_of_cubic(cubic)
            g, h, k = (Fraction(*part) for part in cubic)
            by = k * inner[2]
            self.told(tuple(as_fraction(x) for x in (g / by, h / by ** 2, k / by ** 3)), pair_cubic, outer, inner)

    def test_many_figures(self):
        self.told(((FORTY + 3, 1), (3 * FORTY + 2, 1), (2 * FORTY, 1)), pair_cubic, (FORTY, 1, 2, 0, 0, 0), (1, 1, 1, 0, 0, 0))

    def test_refused(self):
        for thing in NO_CURVES:
            self.refused("NoCurve", pair_cubic, thing, (1, 1, -4, 0, 0, 0))
            self.refused("NoCurve", pair_cubic, (1, 1, -4, 0, 0, 0), thing)
            self.refused("NoCurve", pair_cubic, thing, thing)
        for one, other in NO_PAIRS:
            self.refused("NoPair", pair_cubic, one, other)
            self.refused("NoPair", pair_cubic, other, one)


if __name__ == "__main__":
    unittest.main()
