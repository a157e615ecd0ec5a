"""[19] and [20]: rings made, cubics of counts and their curves."""

import unittest
from fractions import Fraction
from itertools import combinations

from roundsides.counts import ring_count, ring_paper
from roundsides.curves import curve_has, curve_through, curve_touches, curve_touching
from roundsides.pairs import is_pair, pair_cubic
from roundsides.points import crossed, is_triple, joined, kept_triple, lies_on
from roundsides.rings import count_cubic, cubic_curves, ring_curves, six_curves
from roundsides.rows import comes_back
from roundsides.walks import is_flag, walk
from tests.oracles import (
    COUNTS, LOOSE_CUBICS, all_cubics, as_fraction, circle_points, counted_cubic, cubic_fits, oracle_kept, TABLES,
)
from tests.support import NO_CUBICS, NO_NUMBERS, NO_TRIPLES, THIRTY, Case, anything, number_row

UNITS = [(1, 0, 0), (0, 1, 0), (0, 0, 1)]
FREE = [(1, 2, 3), (1, 1, -1)]
FREE_LINES = [(1, 1, 1), (1, 2, -1)]
FIVE = [(1, 0, 0), (0, 1, 0), (0, 0, 1), (1, 1, 1), (1, 2, 4)]


def drawn(seed, many, most):
    """So many triples of numbers up to most."""
    row = number_row(seed, 3 * many, most)
    threes = [tuple(row[at:at + 3]) for at in range(0, 3 * many, 3)]
    return [kept_triple(three) if any(three) else (1, 0, 0) for three in threes]


def loose(triples):
    """Whether no three of them are in one row."""
    return len(set(triples)) == len(triples) and not any(
        lies_on(third, joined(one, other)) for one, other, third in combinations(triples, 3))


def ring_sides(corners):
    return [joined(one, other) for one, other in zip(corners, corners[1:] + corners[:1])]


def told_rings():
    """Corners, points and lines that make rings of three, four and five corners, of few and of many figures."""
    made = []
    for many in (3, 4, 5):
        for seed, most in ((1, 2), (2, 3), (3, 4), (4, 9), (5, 9), (6, 99), (7, 10 ** 4)):
            for again in range(40):
                triples = drawn(1000 * again + 10 * seed + many, 10 - many, most)
                corners, points, lines = triples[:many], triples[many:5], triples[5:]
                if loose(corners + points) and loose(ring_sides(corners) + lines):
                    if is_pair(curve_through(corners + points), curve_touching(ring_sides(corners) + lines)):
                        made.append((corners, points, lines))
                        break
    return made


def hexagons():
    """Five corners each whose sixth makes a ring of six."""
    made = []
    for seed, most in ((1, 3), (2, 3), (3, 4), (4, 9), (5, 9), (6, 99), (7, 10 ** 4)):
        for again in range(40):
            corners = drawn(1000 * again + seed, 5, most)
            if not loose(corners):
                continue
            sixth = by_words(corners)
            lines = [joined(one, other) for one, other in zip(corners + [sixth], corners[1:] + [sixth]) if one != other]
            if sixth not in corners and loose(lines) and is_pair(curve_through(corners), curve_touching(lines)):
                made.append(corners)
                break
    return made


def by_words(corners):
    """The sixth corner, looked for on the line as point 19 writes it, with fractions."""
    first, second, third, fourth, fifth = corners
    outer = curve_through(corners)
    middle = crossed(joined(first, fourth), joined(second, fifth))
    a, b, c, d, e, f = outer
    x, y, z = third
    u, v, w = middle
    # Third and s times middle lies on the curve where s(mixed + s squares) is 0.
    squares = a * u * u + b * v * v + c * w * w + d * v * w + e * u * w + f * u * v
    mixed = 2 * (a * x * u + b * y * v + c * z * w) + d * (y * w + z * v) + e * (x * w + z * u) + f * (x * v + y * u)
    return oracle_kept([squares * one - mixed * other for one, other in zip(third, middle)])


class RingCurves(Case):
    def test_examples(self):
        # Through the three unit points goes dyz + exz + fxy; the lines x, y and z touch it turned about.
        outer, inner = ring_curves(UNITS, FREE, FREE_LINES)
        self.assertEqual(outer[:3], (0, 0, 0))
        self.assertEqual(ring_count(outer, inner), 3)
        self.told((outer, inner), ring_curves, UNITS, FREE, FREE_LINES)
        told = ring_curves(FIVE, [], [])
        self.assertEqual(told, (curve_through(FIVE), curve_touching(ring_sides(FIVE))))

    def test_by_the_words(self):
        rings = told_rings()
        self.assertGreater(len(rings), 18)
        for corners, points, lines in rings:
            told = ring_curves(corners, points, lines)
            self.assertIs(type(told), tuple)
            outer, inner = told
            for point in corners + points:
                self.assertTrue(curve_has(outer, point))
            for line in ring_sides(corners) + lines:
                self.assertTrue(curve_touches(inner, line))
            self.told((outer, inner), ring_curves, corners, points, lines)

    def test_their_count_is_that_of_the_corners(self):
        for corners, points, lines in told_rings():
            outer, inner = ring_curves(corners, points, lines)
            self.assertEqual(ring_count(outer, inner), len(corners))
            self.assertEqual(ring_paper(outer, inner), ("back", len(corners)))
            flag = (corners[0], joined(corners[0], corners[1]))
            self.assertTrue(is_flag(outer, inner, flag))
            self.assertEqual([point for point, _ in walk(outer, inner, flag, len(corners))], corners + corners[:1])

    def test_many_figures(self):
        points = circle_points(TABLES[3], 5)
        lines = circle_points(((THIRTY, 2, 1), (0, 3, THIRTY - 2), (5, 1, 1)), 2)
        for many in (3, 4, 5):
            corners = points[:many]
            outer, inner = ring_curves(corners, points[many:], lines[:5 - many])
            self.assertEqual(outer, curve_through(points))
            self.assertTrue(all(curve_touches(inner, line) for line in ring_sides(corners) + lines[:5 - many]))
            self.assertEqual(ring_count(outer, inner), many)

    def test_the_order_of_the_corners_counts(self):
        outer, inner = ring_curves(FIVE, [], [])
        turned = FIVE[2:] + FIVE[:2]
        self.told((outer, inner), ring_curves, turned, [], [])
        self.told((outer, inner), ring_curves, turned[::-1], [], [])
        crosswise = [FIVE[0], FIVE[2], FIVE[4], FIVE[1], FIVE[3]]
        self.assertEqual(ring_curves(crosswise, [], [])[0], outer)
        self.assertNotEqual(ring_curves(crosswise, [], [])[1], inner)

    def test_like_corners_and_three_on_one_line(self):
        for corners, points, lines in (
            ([UNITS[0], UNITS[0], UNITS[2]], FREE, FREE_LINES), ([UNITS[0], UNITS[1], UNITS[0]], FREE, FREE_LINES),
            ([UNITS[0], UNITS[1], UNITS[1]], FREE, FREE_LINES), ([UNITS[0]] * 3, FREE, FREE_LINES),
            (UNITS, [FREE[0], FREE[0]], FREE_LINES), (UNITS, [UNITS[1], FREE[0]], FREE_LINES),
            (UNITS, FREE, [FREE_LINES[0]] * 2), (UNITS, FREE, [(1, 0, 0), FREE_LINES[0]]),
            ([(1, 0, 0), (0, 1, 0), (1, 1, 0)], FREE, FREE_LINES), (UNITS, [(1, 1, 0), FREE[0]], FREE_LINES),
            # A line through a corner, through which two sides go.
            (UNITS, FREE, [(1, 1, 0), FREE_LINES[0]]), (UNITS, FREE, [FREE_LINES[0], (0, 1, 5)]),
            # Both lines meet on a side.
            (UNITS, FREE, [(1, 1, 1), (2, 1, 1)]),
            (FIVE[:4] + [(1, 0, 0)], [], []), (FIVE[:4] + [(1, 2, 2)], [], []), (FIVE[:4] + [(1, 1, 0)], [], []),
            (FIVE[:4], [(0, 0, 1)], [(1, 2, 7)]), (FIVE[:4], [(1, 1, 2)], [(1, 2, 7)]),
            (FIVE[:4], [FIVE[4]], [(1, -1, 0)]), (FIVE[:4], [FIVE[4]], [(0, 0, 1)]),
        ):
            self.refused("NoCurve", ring_curves, corners, points, lines)

    def test_curves_that_are_no_pair(self):
        # They touch twice: all three of a triangle alike, and the two circles of a square.
        twice = [(2, 2, -1), (2, -1, 2)]
        self.refused("NoPair", ring_curves, UNITS, twice, twice)
        square = [(1, 1, 1), (1, -1, 1), (1, 1, -1), (1, -1, -1)]
        self.refused("NoPair", ring_curves, square, [(1, 7, 5)], [(3, 4, -5)])
        self.assertEqual(ring_count(*ring_curves(square, [(1, 7, 5)], [(3, 4, -6)])), 4)

    def test_no_lists_of_triples(self):
        good = [UNITS, FREE, FREE_LINES]
        for thing in anything() + [tuple(UNITS), tuple(FREE), FIVE + [(1, 3, 9)], [UNITS], FREE[:1], []]:
            self.refused("NoTriple", ring_curves, thing, FREE, FREE_LINES)
            self.refused("NoTriple", ring_curves, UNITS, thing, FREE_LINES)
            self.refused("NoTriple", ring_curves, UNITS, FREE, thing)
        for thing in NO_TRIPLES:
            for at in range(3):
                for place in range(len(good[at])):
                    handed = [list(part) for part in good]
                    handed[at][place] = thing
                    self.refused("NoTriple", ring_curves, *handed)

    def test_as_many_as_are_left(self):
        more = [(1, 2, 3), (1, 1, -1), (2, 3, 7), (1, 5, -3)]
        for many in range(0, 8):
            corners = (FIVE + [(1, 3, 9), (1, 4, 16)])[:many]
            for points in range(4):
                for lines in range(4):
                    if many not in (3, 4, 5) or points != 5 - many or lines != 5 - many:
                        self.refused("NoTriple", ring_curves, corners, more[:points], more[:lines])

    def test_in_their_order(self):
        # Lists that are none are told ahead of like corners, wherever they stand.
        like = [UNITS[0]] * 3
        for bad in (None, [], FREE[:1], [(2, 0, 0), (0, 1, 0)], tuple(FREE)):
            self.refused("NoTriple", ring_curves, like, bad, FREE_LINES)
            self.refused("NoTriple", ring_curves, like, FREE, bad)
            self.refused("NoTriple", ring_curves, UNITS, [FREE[0], FREE[0]], bad)
        # And no curve ahead of no pair: the inner one here is none, the outer one would be like itself.
        self.refused("NoCurve", ring_curves, UNITS, [(2, 2, -1), (2, -1, 2)], [(2, 2, -1), (2, 2, -1)])

    def test_lists_handed_in_may_be_changed(self):
        corners, points, lines = list(UNITS), list(FREE), list(FREE_LINES)
        told = ring_curves(corners, points, lines)
        corners.append((1, 1, 1))
        points.clear()
        lines[0] = None
        self.told(told, ring_curves, UNITS, FREE, FREE_LINES)
        self.refused("NoTriple", ring_curves, corners, points, lines)


class SixCurves(Case):
    def test_by_the_words(self):
        made = hexagons()
        self.assertGreater(len(made), 5)
        for corners in made:
            told = six_curves(corners)
            self.assertIs(type(told), tuple)
            outer, inner, sixth = told
            self.assertEqual(outer, curve_through(corners))
            self.assertEqual(sixth, by_words(corners))
            self.assertTrue(is_triple(sixth) and curve_has(outer, sixth))
            self.assertNotIn(sixth, corners)
            self.assertTrue(all(curve_touches(inner, line) for line in ring_sides(corners + [sixth])))
            self.told((outer, inner, sixth), six_curves, corners)

    def test_their_count_is_six(self):
        for corners in hexagons():
            outer, inner, sixth = six_curves(corners)
            self.assertEqual(ring_count(outer, inner), 6)
            flags = walk(outer, inner, (corners[0], joined(corners[0], corners[1])), 6)
            self.assertEqual([point for point, _ in flags], corners + [sixth, corners[0]])

    def test_lines_between_facing_corners_meet(self):
        for corners in hexagons():
            sixth = six_curves(corners)[2]
            middle = crossed(joined(corners[0], corners[3]), joined(corners[1], corners[4]))
            self.assertTrue(lies_on(middle, joined(corners[2], sixth)))

    def test_many_figures(self):
        corners = circle_points(TABLES[3], 5)
        outer, inner, sixth = six_curves(corners)
        self.assertEqual(sixth, by_words(corners))
        self.assertEqual(ring_count(outer, inner), 6)

    def test_the_sixth_being_one_of_the_five(self):
        # On yy = xz the lines from t to -t all go through one point, as does the one that touches at 0.
        corners = [(1, t, t * t) for t in (1, 2, 0, -1, -2)]
        self.assertEqual(by_words(corners), corners[2])
        self.refused("NoCurve", six_curves, corners)

    def test_sides_that_meet_in_one_point(self):
        corners, sixth = [(1, 0, 0), (1, 2, 4), (0, 0, 1), (1, -1, 1), (1, 1, 1)], (4, 2, 1)
        self.assertEqual(by_words(corners), sixth)
        self.assertTrue(loose(corners + [sixth]))
        first, third, fifth = ring_sides(corners + [sixth])[::2]
        self.assertTrue(lies_on(crossed(first, third), fifth))
        self.refused("NoCurve", six_curves, corners)

    def test_three_on_one_line_and_like_ones(self):
        for corners in (
            FIVE[:4] + [(1, 0, 0)], FIVE[:4] + [(1, 2, 2)], FIVE[:4] + [(1, 1, 0)], [FIVE[0]] * 5,
            [FIVE[0], FIVE[0]] + FIVE[1:4], [(1, 0, 0), (0, 1, 0), (1, 1, 0), (0, 0, 1), (1, 1, 1)],
        ):
            self.refused("NoCurve", six_curves, corners)

    def test_curves_that_are_no_pair(self):
        # A ring of six alike sides, moved: xx - xy + yy is 1 at each corner.
        corners = [(1, 0, 1), (1, 1, 1), (0, 1, 1), (1, 0, -1), (1, 1, -1)]
        self.assertEqual(by_words(corners), (0, 1, -1))
        self.refused("NoPair", six_curves, corners)

    def test_no_list_of_five_triples(self):
        for thing in anything() + [FIVE[:4], FIVE + [(1, 3, 9)], tuple(FIVE), [FIVE], []]:
            self.refused("NoTriple", six_curves, thing)
        for thing in NO_TRIPLES:
            for place in range(5):
                self.refused("NoTriple", six_curves, FIVE[:place] + [thing] + FIVE[place + 1:])
        self.refused("NoTriple", six_curves, [FIVE[0]] * 4 + [None])

    def test_a_list_handed_in_may_be_changed(self):
        corners = hexagons()[0]
        handed = list(corners)
        told = six_curves(handed)
        handed.reverse()
        handed.pop()
        self.told(told, six_curves, corners)


def fractions():
    """Fractions among which are all at which something is taken through 0, or what comes is no cubic."""
    made = {Fraction(top, bottom) for top in range(-8, 9) for bottom in range(1, 7)}
    made |= {Fraction(1, 4), Fraction(-1, 8), Fraction(8, 27), Fraction(1, 9), Fraction(-27, 4), Fraction(1, 16)}
    return sorted(made)


class CountCubic(Case):
    def test_examples(self):
        self.told(((4, 1), (4, 1), (1, 1)), count_cubic, 3, (2, 1))
        # c is 0 and b is 2: -2/2, (1 - 8)/4 and 4/4.
        self.told(((-1, 1), (-7, 4), (1, 1)), count_cubic, 4, (2, 1))
        # Both are 2: -2(-1)/2, (1 - 8)/4, 4/4.
        self.told(((1, 1), (-7, 4), (1, 1)), count_cubic, 5, (2, 1))
        # c is 2 and b is 6: 2/6, (1 - 24)/36, 4/36.
        self.told(((1, 3), (-23, 36), (1, 9)), count_cubic, 6, (2, 1))
        # c is 2 and b is 4.
        self.told(((1, 2), (-15, 16), (1, 4)), count_cubic, 7, (2, 1))
        # b is 3 and c is 3/2.
        self.told(((1, 3), (-47, 36), (4, 9)), count_cubic, 8, (2, 1))
        # c is 4 and b is 12.
        self.told(((1, 2), (-13, 48), (1, 36)), count_cubic, 9, (2, 1))
        # w is 1, c is 6 and b is 24.
        self.told(((5, 12), (-71, 576), (1, 144)), count_cubic, 10, (2, 1))
        # c is 7(-6) and b is -42(-5).
        self.told(((-43, 105), (1009, 44100), (1, 11025)), count_cubic, 12, (2, 1))

    def test_as_the_words_tell(self):
        for sides in COUNTS:
            made = refused = 0
            for t in fractions():
                cubic = counted_cubic(sides, t)
                if cubic is None or not cubic_fits(cubic):
                    self.refused("NoCubic", count_cubic, sides, as_fraction(t))
                    refused += 1
                else:
                    self.told(cubic, count_cubic, sides, as_fraction(t))
                    made += 1
            self.assertGreater(made, 20)
            # Of (1 + tx)(1 + tx) + xxx two roots are one only where 4ttt is 27, and that is no fraction's cube.
            self.assertEqual(refused == 0, sides == 3)

    def test_just_so_many_sides(self):
        for sides in COUNTS:
            for t in fractions()[::5]:
                cubic = counted_cubic(sides, t)
                if cubic is not None and cubic_fits(cubic):
                    told = count_cubic(sides, as_fraction(t))
                    self.assertEqual([many for many in range(3, 13) if comes_back(told, many)], list(range(sides, 13, sides)))

    def test_something_taken_through_nought(self):
        for sides, bad in (
            (4, [(0, 1)]), (5, [(0, 1)]), (6, [(0, 1), (-1, 1)]), (7, [(0, 1), (1, 1)]),
            (8, [(0, 1), (1, 1), (1, 2)]), (9, [(0, 1), (1, 1)]), (10, [(0, 1), (1, 1), (1, 2)]),
            (12, [(0, 1), (1, 1), (1, 2)]),
        ):
            for t in bad:
                self.assertIsNone(counted_cubic(sides, Fraction(*t)))
                self.refused("NoCubic", count_cubic, sides, t)

    def test_no_cubic_comes(self):
        # Nothing is taken through 0 there, but two roots are one.
        for sides, t in ((4, (-1, 16)), (6, (-1, 9))):
            self.assertFalse(cubic_fits(counted_cubic(sides, Fraction(*t))))
            self.refused("NoCubic", count_cubic, sides, t)
            self.assertEqual(comes_back(count_cubic(sides, (-t[0], t[1])), sides), True)

    def test_many_figures(self):
        t = as_fraction(Fraction(10 ** 39 + 3, 10 ** 39 + 7))
        for sides in COUNTS:
            self.told(counted_cubic(sides, Fraction(*t)), count_cubic, sides, t)
        for sides in (3, 4, 5, 6):
            self.assertTrue(comes_back(count_cubic(sides, t), sides))

    def test_no_sides(self):
        for bad in NO_NUMBERS + [0, 1, 2, 11, 13, 14, 15, 16, 18, 24, -3, -12, (4, 1), [4], "4", "12"]:
            for t in ((2, 1), None, (2, 4), (0, 1)):
                self.refused("NoSides", count_cubic, bad, t)

    def test_no_fraction(self):
        for thing in [thing for thing in anything() if thing != (1, 2)] + [
            2, (2, 2), (2, 0), (2, -1), (0, 2), (2, 1, 1), [2, 1], (True, 1), (2, True), ("2", 1), "2", "1/2", (2,),
        ]:
            for sides in COUNTS:
                self.refused("NoFraction", count_cubic, sides, thing)


def curved_cubics():
    """Cubics whose third number is not the product of the others."""
    return [(g, h, k) for g, h, k in all_cubics() if Fraction(*k) != Fraction(*g) * Fraction(*h)]


class CubicCurves(Case):
    def test_examples(self):
        # e is 1 - 7/4: (-7/3, -1, -3/4, 0, 0, 2) times -12.
        self.told(((28, 12, 9, 0, 0, -24), (0, 1, 0, 0, 2, 0)), cubic_curves, ((-1, 1), (-7, 4), (1, 1)))
        self.told(((0, 1, 2, 0, 0, 2), (0, 1, 0, 0, 2, 0)), cubic_curves, ((1, 1), (0, 1), (2, 1)))

    def test_as_the_words_tell(self):
        for cubic in all_cubics():
            g, h, k = (Fraction(*part) for part in cubic)
            e = k - g * h
            if e == 0:
                self.refused("NoPair", cubic_curves, cubic)
                continue
            six = [-h / e, g, e, Fraction(0), Fraction(0), Fraction(2)]
            bottom = 1
            for number in six:
                bottom *= number.denominator
            outer = oracle_kept([int(number * bottom) for number in six])
            self.told((outer, (0, 1, 0, 0, 2, 0)), cubic_curves, cubic)

    def test_the_same_cubic_by_another_t(self):
        for cubic in curved_cubics():
            outer, inner = cubic_curves(cubic)
            by = Fraction(outer[5], 2)
            g, h, k = (Fraction(*part) for part in cubic)
            self.assertEqual(pair_cubic(outer, inner), tuple(as_fraction(x) for x in (g * by, h * by ** 2, k * by ** 3)))

    def test_their_count(self):
        for sides in COUNTS:
            for t in ((2, 7), (3, 1), (-5, 2)):
                self.assertEqual(ring_count(*cubic_curves(count_cubic(sides, t))), sides)
        for cubic in curved_cubics():
            if cubic in LOOSE_CUBICS:
                self.assertIsNone(ring_count(*cubic_curves(cubic)))

    def test_refused(self):
        for thing in NO_CUBICS:
            self.refused("NoCubic", cubic_curves, thing)
        for cubic in (((1, 1), (2, 1), (2, 1)), ((-1, 2), (3, 5), (-3, 10)), ((THIRTY, 1), (1, 1), (THIRTY, 1))):
            self.assertTrue(cubic_fits(cubic))
            self.refused("NoPair", cubic_curves, cubic)


if __name__ == "__main__":
    unittest.main()
