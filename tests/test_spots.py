"""[13]: sums of spots."""

import unittest
from fractions import Fraction

from roundsides.pairs import pair_cubic
from roundsides.rows import comes_back
from roundsides.spots import is_spot, spot_sum, spot_times
from tests.oracles import COUNTS, LOOSE_CUBICS, all_cubics, as_fraction, counted_cubics, pair_with_flag
from tests.support import FLAT_CUBICS, FORTY, NO_CUBICS, NO_NUMBERS, Case, anything

FIRST = ((0, 1), (1, 1))
CUBIC = ((7, 2), (9, 2), (2, 1))
# yy = 1 + ttt has just six spots: five, and the one far out.
ROUND = ((0, 1), (0, 1), (1, 1))
ROUND_SPOTS = [None, ((2, 1), (3, 1)), FIRST, ((-1, 1), (0, 1)), ((0, 1), (-1, 1)), ((2, 1), (-3, 1))]
NO_SPOTS = [
    FIRST[:1], FIRST + ((0, 1),), list(FIRST), ([0, 1], (1, 1)), ((0, 1), [1, 1]), (0, 1), ((0, 1), 1), (0, (1, 1)),
    ((0, 1), (2, 2)), ((0, 2), (1, 1)), ((0, -1), (1, 1)), ((0, 1), (-1, -1)), ((0, 1), (1, 0)), ((0, 1), (True, 1)),
    ((False, 1), (1, 1)), ((0, 1), (1, True)), ((0, 1), None), (None, (1, 1)), (None, None), ("0", "1"), "None",
    ((0, 1), (2, 1)), ((1, 1), (1, 1)), ((0, 1), (0, 1)), ((1, 1), (0, 1)), (FIRST,), [FIRST], [None], (None,),
    ((FORTY, 1), (FORTY, 1)), ((0, 1), (FORTY, FORTY + 1)), ((1, FORTY), (1, 1)),
]


def lies_there(cubic, spot):
    g, h, k = (Fraction(*part) for part in cubic)
    t, y = (Fraction(*part) for part in spot)
    return y * y == 1 + g * t + h * t * t + k * t * t * t


def fits_the_words(cubic, one, other, total):
    """Whether the cubic less the square of the line's y has the t's of both and of the sum as its three roots."""
    g, h, k = (Fraction(*part) for part in cubic)
    t1, y1 = (Fraction(*part) for part in one)
    t2, y2 = (Fraction(*part) for part in other)
    t3, y3 = (Fraction(*part) for part in total)
    steep = (y2 - y1) / (t2 - t1) if one != other else (g + 2 * h * t1 + 3 * k * t1 * t1) / (2 * y1)
    for t in range(5):
        line = y1 + steep * (t - t1)
        if 1 + g * t + h * t ** 2 + k * t ** 3 - line ** 2 != k * (t - t1) * (t - t2) * (t - t3):
            return False
    return -y3 == y1 + steep * (t3 - t1)


def turned(spot):
    return None if spot is None else (spot[0], (-spot[1][0], spot[1][1]))


def spots_of(cubic, many):
    """Sums of the first spot with itself, one by one, from None on."""
    spots = [None]
    for _ in range(many):
        spots.append(spot_sum(cubic, spots[-1], FIRST))
    return spots


def rooted_cubics():
    """Cubics with a spot whose y is 0: (1 - t)(1 + at + btt) for some a and b."""
    made = []
    for a, b in ((1, 1), (2, 3), (-5, 2), (0, 7), (3, -5)):
        made.append(((a - 1, 1), (b - a, 1), (-b, 1)))
    return made


class IsSpot(Case):
    def test_spots(self):
        for cubic in all_cubics() + rooted_cubics():
            self.told(True, is_spot, cubic, None)
            self.told(True, is_spot, cubic, FIRST)
            self.told(True, is_spot, cubic, turned(FIRST))
        for cubic in rooted_cubics():
            self.told(True, is_spot, cubic, ((1, 1), (0, 1)))

    def test_those_of_one_cubic(self):
        for spot in ROUND_SPOTS:
            self.told(True, is_spot, ROUND, spot)

    def test_small_ones_all(self):
        for cubic in (ROUND, CUBIC, ((1, 2), (-1, 3), (1, 5)), ((4, 3), (-8, 9), (4, 9))):
            seen = 0
            fractions = sorted({as_fraction(Fraction(top, low)) for top in range(-9, 10) for low in range(1, 5)})
            for t in fractions:
                for y in fractions:
                    whether = lies_there(cubic, (t, y))
                    self.assertIs(is_spot(cubic, (t, y)), whether)
                    seen += whether
            self.assertGreater(seen, 1)

    def test_each_number_counts(self):
        # At 2 the cubic is worth 1 + 2g + 4h + 8k, at 1/2 it is 1 + g/2 + h/4 + k/8.
        self.told(True, is_spot, ((4, 1), (0, 1), (2, 1)), ((2, 1), (5, 1)))
        self.told(True, is_spot, ((0, 1), (2, 1), (2, 1)), ((2, 1), (5, 1)))
        self.told(True, is_spot, ((0, 1), (0, 1), (3, 1)), ((2, 1), (-5, 1)))
        self.told(False, is_spot, ((0, 1), (0, 1), (3, 1)), ((2, 1), (4, 1)))
        self.told(True, is_spot, ((2, 1), (0, 1), (2, 1)), ((1, 2), (3, 2)))
        self.told(False, is_spot, ((2, 1), (0, 1), (2, 1)), ((1, 2), (3, 1)))
        self.told(True, is_spot, ((0, 1), (5, 1), (-10, 1)), ((1, 2), (1, 1)))

    def test_none(self):
        for thing in [thing for thing in anything() if thing is not None] + NO_SPOTS:
            self.told(False, is_spot, CUBIC, thing)
        for thing in NO_SPOTS:
            self.told(False, is_spot, ROUND, thing)

    def test_many_figures(self):
        t = as_fraction(Fraction(FORTY, FORTY + 2))
        # k is such that the cubic is worth a square there.
        y = Fraction(FORTY + 4, FORTY + 7)
        k = (y * y - 1 - Fraction(*t)) / Fraction(*t) ** 3
        cubic = ((1, 1), (0, 1), as_fraction(k))
        self.told(True, is_spot, cubic, (t, as_fraction(y)))
        self.told(True, is_spot, cubic, (t, as_fraction(-y)))
        self.told(False, is_spot, cubic, (t, as_fraction(y + Fraction(1, FORTY))))
        self.told(False, is_spot, cubic, (as_fraction(-Fraction(*t)), as_fraction(y)))

    def test_refused(self):
        for thing in NO_CUBICS:
            self.refused("NoCubic", is_spot, thing, None)
            self.refused("NoCubic", is_spot, thing, FIRST)
            self.refused("NoCubic", is_spot, thing, thing)


class SpotSum(Case):
    def test_examples(self):
        # Of 1 + 4t + 2tt + ttt the line that touches in the first spot is 1 + 2t: 4tt - 2tt are left for the third t.
        self.told(((2, 1), (-5, 1)), spot_sum, ((4, 1), (2, 1), (1, 1)), FIRST, FIRST)
        self.told(((0, 1), (-1, 1)), spot_sum, ROUND, FIRST, FIRST)
        self.told(((-1, 1), (0, 1)), spot_sum, ROUND, FIRST, ((2, 1), (3, 1)))
        self.told(FIRST, spot_sum, ROUND, ((2, 1), (3, 1)), ((2, 1), (3, 1)))

    def test_all_sums_of_six(self):
        for i, one in enumerate(ROUND_SPOTS):
            for k, other in enumerate(ROUND_SPOTS):
                self.told(ROUND_SPOTS[(i + k) % 6], spot_sum, ROUND, one, other)

    def test_with_the_one_far_out(self):
        for cubic in all_cubics():
            self.told(None, spot_sum, cubic, None, None)
            for spot in spots_of(cubic, 6):
                self.told(spot, spot_sum, cubic, None, spot)
                self.told(spot, spot_sum, cubic, spot, None)

    def test_contrary_ones(self):
        for cubic in all_cubics():
            for spot in spots_of(cubic, 6):
                self.told(None, spot_sum, cubic, spot, turned(spot))
                self.told(None, spot_sum, cubic, turned(spot), spot)

    def test_with_a_y_of_nought(self):
        for cubic in rooted_cubics():
            flat = ((1, 1), (0, 1))
            self.told(None, spot_sum, cubic, flat, flat)
            for spot in (FIRST, turned(FIRST)):
                total = spot_sum(cubic, flat, spot)
                self.assertTrue(fits_the_words(cubic, flat, spot, total))
                self.told(total, spot_sum, cubic, spot, flat)
                self.told(spot, spot_sum, cubic, total, flat)

    def test_like_and_unlike_ones_by_the_words(self):
        tried = 0
        for cubic in all_cubics():
            spots = spots_of(cubic, 5)
            spots = spots[1:] + [turned(spot) for spot in spots[1:]]
            spots = [spot for spot in spots if spot is not None]
            for one in spots:
                for other in spots:
                    total = spot_sum(cubic, one, other)
                    if other == turned(one):
                        self.assertIsNone(total)
                        continue
                    self.assertTrue(is_spot(cubic, total))
                    self.assertTrue(lies_there(cubic, total))
                    self.assertTrue(fits_the_words(cubic, one, other, total))
                    self.assertEqual(total, spot_sum(cubic, other, one))
                    tried += 1
        self.assertGreater(tried, 1000)

    def test_three_in_whatever_order(self):
        for cubic in all_cubics()[::4]:
            first, second, third = spots_of(cubic, 4)[1:4]
            left = spot_sum(cubic, spot_sum(cubic, first, turned(second)), third)
            self.told(left, spot_sum, cubic, first, spot_sum(cubic, turned(second), third))

    def test_many_figures(self):
        cubic = pair_cubic(*pair_with_flag(34, 99)[:2])
        twice = spot_sum(cubic, FIRST, FIRST)
        thrice = spot_sum(cubic, twice, FIRST)
        self.assertTrue(fits_the_words(cubic, FIRST, FIRST, twice))
        self.assertTrue(fits_the_words(cubic, twice, FIRST, thrice))
        self.told(twice, spot_sum, cubic, FIRST, FIRST)
        self.told(twice, spot_sum, cubic, thrice, turned(FIRST))

    def test_refused(self):
        for thing in NO_CUBICS:
            self.refused("NoCubic", spot_sum, thing, FIRST, FIRST)
            self.refused("NoCubic", spot_sum, thing, None, None)
            self.refused("NoCubic", spot_sum, thing, thing, thing)
        for thing in [thing for thing in anything() if thing is not None] + NO_SPOTS:
            for spot in (None, FIRST):
                self.refused("NoSpot", spot_sum, CUBIC, thing, spot)
                self.refused("NoSpot", spot_sum, CUBIC, spot, thing)
            self.refused("NoSpot", spot_sum, CUBIC, thing, thing)

    def test_spots_of_another_cubic(self):
        self.refused("NoSpot", spot_sum, CUBIC, FIRST, ((2, 1), (3, 1)))
        self.refused("NoSpot", spot_sum, CUBIC, ((2, 1), (3, 1)), FIRST)
        self.refused("NoSpot", spot_times, CUBIC, ((2, 1), (3, 1)), 2)


class SpotTimes(Case):
    def test_examples(self):
        for many in range(-24, 25):
            self.told(ROUND_SPOTS[many % 6], spot_times, ROUND, ((2, 1), (3, 1)), many)
            self.told(ROUND_SPOTS[2 * many % 6], spot_times, ROUND, FIRST, many)
            self.told(ROUND_SPOTS[3 * many % 6], spot_times, ROUND, ((-1, 1), (0, 1)), many)

    def test_as_sums_tell(self):
        for cubic in (CUBIC, LOOSE_CUBICS[1], counted_cubics(7)[0], counted_cubics(12)[0]):
            for many, spot in enumerate(spots_of(cubic, 24)):
                self.told(spot, spot_times, cubic, FIRST, many)
                self.told(turned(spot), spot_times, cubic, FIRST, -many)
                self.told(turned(spot), spot_times, cubic, turned(FIRST), many)

    def test_of_other_spots(self):
        for cubic in (CUBIC, LOOSE_CUBICS[2], counted_cubics(9)[0]):
            spots = spots_of(cubic, 24)
            for at in (2, 3, 5):
                for many in range(-4, 5):
                    wanted = spots[at * many] if many >= 0 else turned(spots[-at * many])
                    self.told(wanted, spot_times, cubic, spots[at], many)

    def test_no_times_and_of_none(self):
        for cubic in all_cubics():
            self.told(None, spot_times, cubic, FIRST, 0)
            self.told(FIRST, spot_times, cubic, FIRST, 1)
            self.told(((0, 1), (-1, 1)), spot_times, cubic, FIRST, -1)
            for many in (-24, -1, 0, 1, 2, 24):
                self.told(None, spot_times, cubic, None, many)

    def test_with_a_y_of_nought(self):
        for cubic in rooted_cubics():
            flat = ((1, 1), (0, 1))
            for many in range(-24, 25):
                self.told(flat if many % 2 else None, spot_times, cubic, flat, many)

    def test_comes_back_just_where_it_is_none(self):
        for cubic in all_cubics():
            for sides in range(3, 25):
                self.assertIs(spot_times(cubic, FIRST, sides) is None, comes_back(cubic, sides))

    def test_counts(self):
        for count in COUNTS:
            for cubic in counted_cubics(count):
                for many in range(1, 25):
                    self.assertIs(spot_times(cubic, FIRST, many) is None, many % count == 0)

    def test_many_figures(self):
        cubic = pair_cubic(*pair_with_flag(18, 20)[:2])
        far = spot_times(cubic, FIRST, 24)
        self.assertTrue(is_spot(cubic, far))
        self.assertEqual(spot_times(cubic, FIRST, -24), turned(far))
        self.assertEqual(spot_sum(cubic, far, spot_times(cubic, FIRST, -23)), FIRST)
        self.assertEqual(spot_times(cubic, spot_times(cubic, FIRST, 6), 4), far)

    def test_bounds(self):
        for bad in NO_NUMBERS + [-25, 25, 26, -26, 100]:
            self.refused("TooMany", spot_times, CUBIC, FIRST, bad)
            self.refused("TooMany", spot_times, CUBIC, None, bad)
        for many in (-24, -23, 23, 24):
            self.told(True, is_spot, CUBIC, spot_times(CUBIC, FIRST, many))

    def test_refused(self):
        for thing in NO_CUBICS:
            self.refused("NoCubic", spot_times, thing, FIRST, 2)
            self.refused("NoCubic", spot_times, thing, thing, thing)
        for thing in [thing for thing in anything() if thing is not None] + NO_SPOTS:
            self.refused("NoSpot", spot_times, CUBIC, thing, 2)
            self.refused("NoSpot", spot_times, CUBIC, thing, 0)
            self.refused("NoSpot", spot_times, CUBIC, thing, 25)
            self.refused("NoSpot", spot_times, CUBIC, thing, thing)

    def test_in_their_order(self):
        for cubic in FLAT_CUBICS:
            for bad in (25, -25, None, True, "2"):
                self.refused("NoCubic", spot_times, cubic, ((0, 1), (2, 1)), bad)
                self.refused("NoCubic", spot_times, cubic, FIRST, bad)
                self.refused("NoCubic", spot_sum, cubic, bad, bad)
                self.refused("NoCubic", is_spot, cubic, bad)
        self.refused("NoSpot", spot_times, CUBIC, ((0, 1), (2, 1)), True)


class Kinds(Case):
    def test_spots_told_are_tuples_of_fractions(self):
        for spot in spots_of(CUBIC, 8)[1:] + [spot_times(CUBIC, FIRST, many) for many in (-7, -1, 1, 9)]:
            self.assertIs(type(spot), tuple)
            self.assertEqual([type(part) for part in spot], [tuple, tuple])
            self.assertEqual([type(number) for part in spot for number in part], [int] * 4)


if __name__ == "__main__":
    unittest.main()
