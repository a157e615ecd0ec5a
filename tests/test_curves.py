"""[7] and [8]: curves."""

import unittest
from fractions import Fraction
from itertools import combinations, permutations

from roundsides.curves import (
    curve_has, curve_through, curve_touches, curve_touching, dual_curve, is_curve, kept_curve,
)
from roundsides.points import joined, kept_triple
from tests.oracles import (
    TABLES, circle_points, curves, matrix, oracle_dual, oracle_kept, rows_worth, tangent,
)
from tests.support import CIRCLE, FLAT, FORTY, NO_CURVES, NO_TRIPLES, THIRTY, Case, anything, number_row


def solved(points):
    """The curve through five points by taking equations from one another, not as the program reckons it."""
    rows = [[Fraction(n) for n in (x * x, y * y, z * z, y * z, x * z, x * y)] for x, y, z in points]
    leads = []
    for at in range(6):
        row = next((row for row in rows[len(leads):] if row[at]), None)
        if row is None:
            continue
        rows.remove(row)
        row = [number / row[at] for number in row]
        rows = [[n - other[at] * m for n, m in zip(other, row)] for other in rows]
        rows.insert(len(leads), row)
        leads.append(at)
    free = next(at for at in range(6) if at not in leads)
    numbers = [Fraction(0)] * 6
    numbers[free] = Fraction(1)
    for row, at in zip(rows, leads):
        numbers[at] = -row[free]
    bottom = 1
    for number in numbers:
        bottom *= number.denominator
    return oracle_kept([int(number * bottom) for number in numbers])


class IsCurve(Case):
    def test_curves(self):
        for curve in curves():
            self.told(True, is_curve, curve)

    def test_none(self):
        for thing in NO_CURVES:
            self.told(False, is_curve, thing)

    def test_small_ones_all(self):
        for at in range(3 ** 6):
            six = tuple(at // 3 ** k % 3 - 1 for k in range(6))
            whether = any(six) and oracle_kept(six) == six and rows_worth(matrix(six)) != 0
            self.told(whether, is_curve, six)


class Kept(Case):
    def test_examples(self):
        self.told(CIRCLE, kept_curve, (-3, -3, 3, 0, 0, 0))
        self.told((0, 1, 0, 0, 2, 0), kept_curve, (0, -5, 0, 0, -10, 0))
        self.told((1, 1, -4, 0, 0, 0), kept_curve, (1, 1, -4, 0, 0, 0))
        self.told((0, 0, 0, 1, 1, 1), kept_curve, (0, 0, 0, -7, -7, -7))

    def test_curves_times_numbers(self):
        for curve in curves():
            for factor in (1, -1, 6, -35, FORTY):
                self.told(curve, kept_curve, tuple(factor * number for number in curve))

    def test_those_that_make_no_curve(self):
        for six in FLAT:
            for factor in (1, -1, 6):
                self.refused("NoCurve", kept_curve, tuple(factor * number for number in six))

    def test_anything(self):
        for thing in anything() + [(1, 0, 0), (1, 1, -1, 0, 0), CIRCLE + (0,), list(CIRCLE), (2, 2, -2, 0, 0, True)]:
            self.refused("NoCurve", kept_curve, thing)


class CurveHas(Case):
    def test_examples(self):
        self.told(True, curve_has, CIRCLE, (3, 4, 5))
        self.told(True, curve_has, CIRCLE, (3, -4, 5))
        self.told(False, curve_has, CIRCLE, (3, 4, 6))
        self.told(False, curve_has, CIRCLE, (0, 0, 1))
        self.told(True, curve_has, (0, 1, 0, 0, 2, 0), (1, 0, 0))
        self.told(True, curve_has, (0, 1, 0, 0, 2, 0), (2, 2, -1))
        self.told(False, curve_has, (0, 1, 0, 0, 2, 0), (2, 2, 1))

    def test_each_number_at_its_place(self):
        for curve in curves():
            a, b, c, d, e, f = curve
            for x, y, z in ((1, 0, 0), (0, 1, 0), (0, 0, 1), (0, 1, -1), (1, 0, -1), (1, -1, 0), (1, 2, 3), (2, -1, 5)):
                worth = a * x ** 2 + b * y ** 2 + c * z ** 2 + d * y * z + e * x * z + f * x * y
                self.told(worth == 0, curve_has, curve, (x, y, z))

    def test_one_number_makes_it_lie_there(self):
        self.told(True, curve_has, (0, 0, 1, 1, 0, -2), (1, 1, 1))
        self.told(True, curve_has, (1, 1, -2, 0, 0, 0), (1, -1, 1))
        self.told(True, curve_has, (0, 0, 0, 1, 1, -2), (1, 1, 1))
        self.told(False, curve_has, (0, 0, 0, 1, 1, -2), (1, 1, -1))

    def test_many_figures(self):
        root = 10 ** 15
        square = root * root
        self.told(True, curve_has, (square, 1, -1, 0, 0, 0), (1, 0, root))
        self.told(False, curve_has, (square, 1, -1, 0, 0, 0), (1, 0, root + 1))
        self.told(True, curve_has, CIRCLE, (2 * root, square - 1, square + 1))
        self.told(False, curve_has, CIRCLE, (2 * root, square - 1, square + 3))

    def test_refused(self):
        for function in (curve_has, curve_touches):
            for thing in NO_CURVES:
                self.refused("NoCurve", function, thing, (1, 0, 0))
            for thing in NO_TRIPLES:
                self.refused("NoTriple", function, CIRCLE, thing)

    def test_no_curve_is_told_ahead_of_no_triple(self):
        for function in (curve_has, curve_touches):
            for thing in NO_CURVES:
                self.refused("NoCurve", function, thing, (0, 0, 0))
                self.refused("NoCurve", function, thing, thing)


class Dual(Case):
    def test_examples(self):
        self.told(CIRCLE, dual_curve, CIRCLE)
        self.told((4, 4, -1, 0, 0, 0), dual_curve, (1, 1, -4, 0, 0, 0))
        self.told((0, 1, 0, 0, 2, 0), dual_curve, (0, 1, 0, 0, 2, 0))
        self.told((1, 1, 1, -2, -2, -2), dual_curve, (0, 0, 0, 1, 1, 1))

    def test_as_the_minors_tell(self):
        for curve in curves():
            self.told(oracle_dual(curve), dual_curve, curve)

    def test_twice_is_the_curve_again(self):
        for curve in curves():
            self.told(True, is_curve, dual_curve(curve))
            self.told(curve, dual_curve, dual_curve(curve))

    def test_refused(self):
        for thing in NO_CURVES:
            self.refused("NoCurve", dual_curve, thing)


class CurveTouches(Case):
    def test_examples(self):
        self.told(True, curve_touches, CIRCLE, (1, 0, -1))
        self.told(True, curve_touches, CIRCLE, (3, 4, 5))
        self.told(False, curve_touches, CIRCLE, (1, 0, 0))
        self.told(False, curve_touches, CIRCLE, (1, 0, -2))
        self.told(True, curve_touches, (1, 1, -4, 0, 0, 0), (1, 0, -2))
        self.told(False, curve_touches, (1, 1, -4, 0, 0, 0), (1, 0, -1))
        self.told(True, curve_touches, (0, 1, 0, 0, 2, 0), (0, 0, 1))

    def test_tangents_touch_and_chords_do_not(self):
        for rows in TABLES:
            points = circle_points(rows, 6)
            curve = curve_through(points[:5])
            for point in points:
                self.told(True, curve_touches, curve, tangent(curve, point))
            for one, other in combinations(points, 2):
                self.told(False, curve_touches, curve, joined(one, other))

    def test_as_the_dual_has_it(self):
        for curve in curves():
            for line in ((1, 0, 0), (0, 1, 0), (0, 0, 1), (1, 1, 1), (1, -2, 3), (0, 1, -1)):
                self.told(curve_has(dual_curve(curve), line), curve_touches, curve, line)


class Through(Case):
    def test_examples(self):
        points = [(1, 0, 1), (0, 1, 1), (1, 0, -1), (0, 1, -1), (3, 4, 5)]
        self.told(CIRCLE, curve_through, points)
        self.told((0, 0, 0, 1, 1, 1), curve_through, [(1, 0, 0), (0, 1, 0), (0, 0, 1), (2, 2, -1), (3, 6, -2)])

    def test_in_every_order(self):
        points = circle_points(TABLES[1], 5)
        curve = solved(points)
        for order in permutations(points):
            self.told(curve, curve_through, list(order))

    def test_as_the_equations_tell(self):
        for rows in TABLES:
            points = circle_points(rows, 8)
            for five in combinations(points, 5):
                curve = solved(five)
                self.told(curve, curve_through, list(five))
                for point in points:
                    self.told(True, curve_has, curve, point)

    def test_points_that_lie_anyhow(self):
        row = number_row(21, 300, 9) + number_row(22, 150, 10 ** 30 - 1)
        tried = 0
        for at in range(0, 450, 15):
            threes = [tuple(row[at + 3 * k:at + 3 * k + 3]) for k in range(5)]
            if not all(any(three) for three in threes):
                continue
            five = [kept_triple(three) for three in threes]
            if any(rows_worth(three) == 0 for three in combinations(five, 3)):
                self.refused("NoCurve", curve_through, five)
                continue
            tried += 1
            curve = curve_through(five)
            self.told(True, is_curve, curve)
            self.told(solved(five), curve_through, five)
            self.told(dual_curve(curve), curve_touching, five)
        self.assertGreater(tried, 20)


class Touching(Case):
    def test_examples(self):
        self.told(CIRCLE, curve_touching, [(1, 0, 1), (0, 1, 1), (1, 0, -1), (0, 1, -1), (3, 4, 5)])
        lines = [(1, 0, 2), (0, 1, 2), (1, 0, -2), (0, 1, -2), (3, 4, 10)]
        self.told((1, 1, -4, 0, 0, 0), curve_touching, lines)

    def test_in_every_order(self):
        points = circle_points(TABLES[2], 5)
        curve = curve_through(points)
        for order in permutations([tangent(curve, point) for point in points]):
            self.told(curve, curve_touching, list(order))

    def test_tangents_give_their_curve_again(self):
        for rows in TABLES:
            points = circle_points(rows, 7)
            curve = curve_through(points[:5])
            lines = [tangent(curve, point) for point in points]
            for five in combinations(lines, 5):
                self.told(curve, curve_touching, list(five))
            for line in lines:
                self.told(True, curve_touches, curve, line)


FIVE = [(1, 0, 1), (0, 1, 1), (1, 0, -1), (0, 1, -1), (3, 4, 5)]


class RefusedLists(Case):
    def test_no_list_of_five_triples(self):
        for function in (curve_through, curve_touching):
            for thing in anything() + [CIRCLE, (1, 0, 0), (1, 2)]:
                self.refused("NoTriple", function, thing)
            for many in (0, 1, 2, 3, 4):
                self.refused("NoTriple", function, FIVE[:many])
            self.refused("NoTriple", function, FIVE + [(5, 12, 13)])
            self.refused("NoTriple", function, FIVE * 20)
            self.refused("NoTriple", function, tuple(FIVE))
            self.refused("NoTriple", function, [FIVE])
            self.refused("NoTriple", function, [list(three) for three in FIVE])

    def test_no_triple_in_each_place(self):
        for function in (curve_through, curve_touching):
            for thing in NO_TRIPLES:
                for at in range(5):
                    self.refused("NoTriple", function, FIVE[:at] + [thing] + FIVE[at + 1:])

    def test_two_like_ones(self):
        for function in (curve_through, curve_touching):
            for at, other in combinations(range(5), 2):
                five = list(FIVE)
                five[other] = five[at]
                self.refused("NoCurve", function, five)
            self.refused("NoCurve", function, [(1, 0, 0)] * 5)
            self.refused("NoCurve", function, [(1, 0, 0), (0, 1, 0)] * 2 + [(0, 0, 1)])

    def test_three_in_one_row(self):
        for function in (curve_through, curve_touching):
            for at, other, last in permutations(range(5), 3):
                five = list(FIVE)
                five[last] = kept_triple(tuple(2 * x + 3 * y for x, y in zip(five[at], five[other])))
                self.refused("NoCurve", function, five)
            self.refused("NoCurve", function, [(1, 0, 0), (1, 1, 0), (1, 2, 0), (1, 3, 0), (0, 0, 1)])
            self.refused("NoCurve", function, [(1, 0, 0), (1, 1, 0), (1, 2, 0), (1, 3, 0), (1, 4, 0)])
            self.refused("NoCurve", function, [(1, 0, 0), (0, 1, 0), (1, THIRTY, 0), (0, 0, 1), (1, 1, 1)])

    def test_no_triple_is_told_ahead_of_no_curve(self):
        for function in (curve_through, curve_touching):
            for at in range(5):
                for bad in ((0, 0, 0), (2, 0, 0), None, [1, 0, 0], (True, 0, 0)):
                    five = [(1, 0, 0)] * 5
                    five[at] = bad
                    self.refused("NoTriple", function, five)
            self.refused("NoTriple", function, [(1, 0, 0)] * 4)
            self.refused("NoTriple", function, [(1, 0, 0)] * 6)
            self.refused("NoTriple", function, ((1, 0, 0),) * 5)


class Untouched(Case):
    def test_a_list_changed_later_changes_no_answer(self):
        for function in (curve_through, curve_touching):
            five = list(FIVE)
            first = function(five)
            five[4] = (5, 12, 14)
            second = function(five)
            five.clear()
            self.assertEqual(first, CIRCLE)
            self.assertNotEqual(second, first)
            self.refused("NoTriple", function, five)
            five.extend(FIVE)
            self.told(first, function, five)
            five.reverse()
            self.told(first, function, five)

    def test_a_refused_list_may_be_mended(self):
        for function in (curve_through, curve_touching):
            five = FIVE[:4] + [(1, 0, 1)]
            self.refused("NoCurve", function, five)
            five[4] = None
            self.refused("NoTriple", function, five)
            five[4] = FIVE[4]
            self.told(CIRCLE, function, five)


if __name__ == "__main__":
    unittest.main()
