"""[5]: fractions."""

import unittest
from fractions import Fraction
from math import gcd

from roundsides.fracs import (
    frac_below, frac_by, frac_less, frac_root, frac_sum, frac_times, fraction_of, is_fraction,
)
from tests.support import FORTY, THIRTY, Case, anything, number_row

BIG = 1234567890123456789012345678901234567890


def pair(worth):
    return (worth.numerator, worth.denominator)


def fractions():
    """Ordinary ones, 0, such below 0, and such of thirty and forty figures."""
    made = [Fraction(0), Fraction(1), Fraction(-1), Fraction(1, 2), Fraction(-1, 2), Fraction(2, 3), Fraction(-7, 4)]
    made += [Fraction(6), Fraction(-12), Fraction(5, 6), Fraction(-5, 6), Fraction(1, 3), Fraction(3)]
    made += [Fraction(THIRTY, 7), Fraction(-7, THIRTY), Fraction(THIRTY, FORTY), Fraction(-FORTY, THIRTY)]
    made += [Fraction(FORTY), Fraction(1, FORTY), Fraction(FORTY + 1, FORTY), Fraction(BIG, 3 ** 80)]
    tops = number_row(5, 8, 10 ** 30)
    bottoms = number_row(6, 8, 10 ** 40)
    return made + [Fraction(top, abs(bottom) + 1) for top, bottom in zip(tops, bottoms)]


class FractionOf(Case):
    def test_ordinary_ones(self):
        self.told((1, 2), fraction_of, 1, 2)
        self.told((1, 2), fraction_of, 2, 4)
        self.told((3, 1), fraction_of, 6, 2)
        self.told((5, 3), fraction_of, 5, 3)
        self.told((-2, 3), fraction_of, -6, 9)

    def test_nought(self):
        self.told((0, 1), fraction_of, 0, 1)
        self.told((0, 1), fraction_of, 0, 7)
        self.told((0, 1), fraction_of, 0, -7)
        self.told((0, 1), fraction_of, 0, -FORTY)

    def test_a_bottom_below_nought(self):
        self.told((-1, 2), fraction_of, 1, -2)
        self.told((1, 2), fraction_of, -1, -2)
        self.told((-3, 2), fraction_of, 6, -4)
        self.told((5, 1), fraction_of, -5, -1)

    def test_many_figures(self):
        self.told((THIRTY, FORTY), fraction_of, THIRTY * 21, FORTY * 21)
        self.told((-1, 3), fraction_of, FORTY, -3 * FORTY)
        for top in number_row(1, 12, 10 ** 40):
            for bottom in number_row(2, 12, 10 ** 30):
                self.told(pair(Fraction(top, bottom)), fraction_of, top, bottom)

    def test_small_ones_all(self):
        for top in range(-12, 13):
            for bottom in range(-12, 13):
                if bottom != 0:
                    self.told(pair(Fraction(top, bottom)), fraction_of, top, bottom)

    def test_no_bottom(self):
        for top in (0, 1, -1, 5, THIRTY, -FORTY):
            self.refused("NoBottom", fraction_of, top, 0)


class Reckoning(Case):
    def test_examples(self):
        self.told((5, 6), frac_sum, (1, 2), (1, 3))
        self.told((1, 6), frac_less, (1, 2), (1, 3))
        self.told((-1, 6), frac_less, (1, 3), (1, 2))
        self.told((1, 3), frac_times, (1, 2), (2, 3))
        self.told((3, 4), frac_by, (1, 2), (2, 3))
        self.told((-3, 4), frac_by, (1, 2), (-2, 3))
        self.told((0, 1), frac_sum, (1, 2), (-1, 2))
        self.told((0, 1), frac_less, (-7, 3), (-7, 3))
        self.told((0, 1), frac_times, (0, 1), (-7, 3))
        self.told((0, 1), frac_by, (0, 1), (-7, 3))

    def test_all_two_by_two(self):
        for one in fractions():
            for other in fractions():
                handed = (pair(one), pair(other))
                self.told(pair(one + other), frac_sum, *handed)
                self.told(pair(one - other), frac_less, *handed)
                self.told(pair(one * other), frac_times, *handed)
                self.told(one < other, frac_below, *handed)
                if other != 0:
                    self.told(pair(one / other), frac_by, *handed)

    def test_by_nought(self):
        for one in fractions():
            self.refused("NoBottom", frac_by, pair(one), (0, 1))

    def test_below(self):
        self.told(True, frac_below, (1, 3), (1, 2))
        self.told(False, frac_below, (1, 2), (1, 3))
        self.told(False, frac_below, (1, 2), (1, 2))
        self.told(True, frac_below, (-1, 2), (-1, 3))
        self.told(True, frac_below, (-1, 2), (0, 1))
        self.told(False, frac_below, (0, 1), (0, 1))
        self.told(True, frac_below, (FORTY, FORTY + 1), (FORTY + 1, FORTY + 2))
        self.told(False, frac_below, (FORTY + 1, FORTY + 2), (FORTY, FORTY + 1))

    def test_what_was_told_may_be_handed_in_again(self):
        worth = (THIRTY, FORTY)
        known = Fraction(*worth)
        for _ in range(5):
            worth = frac_times(worth, worth)
            known *= known
        self.assertEqual(worth, pair(known))
        self.told(True, is_fraction, worth)
        self.assertEqual(frac_root(worth), pair(Fraction(THIRTY, FORTY) ** 16))


class Root(Case):
    def test_squares(self):
        self.told((0, 1), frac_root, (0, 1))
        self.told((1, 1), frac_root, (1, 1))
        self.told((2, 1), frac_root, (4, 1))
        self.told((3, 2), frac_root, (9, 4))
        self.told((1, 5), frac_root, (1, 25))
        for one in fractions():
            self.told(pair(abs(one)), frac_root, pair(one * one))

    def test_every_small_number(self):
        squares = {root * root: root for root in range(40)}
        for number in range(1300):
            root = squares.get(number)
            self.told(None if root is None else (root, 1), frac_root, (number, 1))

    def test_one_beside_a_square(self):
        roots = [2, 3, 10, 2 ** 15, 2 ** 32, 2 ** 64 - 1, 2 ** 64, 2 ** 64 + 1, 10 ** 15, 10 ** 20, THIRTY, FORTY]
        for root in roots:
            self.told((root, 1), frac_root, (root * root, 1))
            self.told((1, root), frac_root, (1, root * root))
            for beside in (root * root - 1, root * root + 1):
                self.told(None, frac_root, (beside, 1))
                self.told(None, frac_root, (1, beside))
                if gcd(beside, root) == 1:
                    self.told(None, frac_root, (beside, root * root))
                    self.told(None, frac_root, (root * root, beside))

    def test_only_the_top_or_the_bottom_is_a_square(self):
        self.told(None, frac_root, (4, 3))
        self.told(None, frac_root, (3, 4))
        self.told(None, frac_root, (2, 3))
        self.told(None, frac_root, (2, 1))

    def test_below_nought(self):
        for fraction in ((-1, 1), (-4, 1), (-1, 4), (-4, 9), (-2, 3), (-THIRTY * THIRTY, 1)):
            self.told(None, frac_root, fraction)


class IsFraction(Case):
    def test_fractions(self):
        for one in fractions():
            self.told(True, is_fraction, pair(one))

    def test_small_pairs_all(self):
        for top in range(-8, 9):
            for bottom in range(-8, 9):
                self.told(bottom >= 1 and gcd(top, bottom) == 1, is_fraction, (top, bottom))

    def test_not_in_lowest_terms(self):
        for thing in ((0, 2), (2, 2), (2, 4), (-2, 4), (THIRTY * 3, FORTY * 3), (0, FORTY), (FORTY, FORTY)):
            self.told(False, is_fraction, thing)

    def test_bottoms_of_nought_or_below(self):
        for thing in ((1, 0), (0, 0), (-1, 0), (1, -1), (1, -2), (0, -1), (THIRTY, -FORTY)):
            self.told(False, is_fraction, thing)

    def test_anything(self):
        for thing in anything():
            self.told(False, is_fraction, thing)

    def test_things_within_one_another(self):
        for thing in (((1, 2),), [(1, 2)], ((1, 2), 1), (1, (1,)), ((1,), (2,)), (1, 2, ()), (1, 2, None), [1, 2]):
            self.told(False, is_fraction, thing)


if __name__ == "__main__":
    unittest.main()
