"""[6]: points and lines."""

import unittest
from math import gcd

from roundsides.points import crossed, is_triple, joined, kept_triple, lies_on
from tests.support import FORTY, THIRTY, Case, anything, number_row


def oracle(three):
    """The triple of three numbers, reckoned in another way than the program does."""
    divisor = gcd(*three)
    lead = next(number for number in three if number)
    return tuple(number // (divisor if lead > 0 else -divisor) for number in three)


def triples():
    """Ordinary ones, with 0 in each place, and such of thirty figures."""
    made = [(x, y, z) for x in range(-2, 3) for y in range(-2, 3) for z in range(-2, 3) if (x, y, z) != (0, 0, 0)]
    row = number_row(3, 24, 10 ** 30 - 1)
    made += [tuple(row[at:at + 3]) for at in range(0, 24, 3)]
    made += [(0, THIRTY, 1), (THIRTY, 0, -THIRTY + 1), (5, -THIRTY, 0), (0, 0, THIRTY)]
    return sorted({oracle(three) for three in made})


NO_TRIPLES = anything() + [
    (0, 0, 0), (2, 0, 0), (0, 2, 0), (0, 0, 2), (2, 4, 6), (-1, 0, 0), (0, -1, 5), (0, 0, -1), (-1, 2, 3),
    (3 * THIRTY, 3, 0), (-THIRTY, 1, 1), (1, 2), (1, 1, -1, 0, 0, 0),
]


class Kept(Case):
    def test_ordinary_ones(self):
        self.told((1, 2, 3), kept_triple, (1, 2, 3))
        self.told((1, 2, 3), kept_triple, (2, 4, 6))
        self.told((1, 2, 3), kept_triple, (-2, -4, -6))
        self.told((1, -2, 3), kept_triple, (-1, 2, -3))
        self.told((2, 3, 5), kept_triple, (-2, -3, -5))
        self.told((6, 10, 15), kept_triple, (6, 10, 15))

    def test_nought_in_each_place(self):
        self.told((0, 1, 2), kept_triple, (0, -3, -6))
        self.told((1, 0, -2), kept_triple, (-3, 0, 6))
        self.told((1, 2, 0), kept_triple, (5, 10, 0))
        self.told((1, 0, 0), kept_triple, (-9, 0, 0))
        self.told((0, 1, 0), kept_triple, (0, 9, 0))
        self.told((0, 0, 1), kept_triple, (0, 0, -9))

    def test_small_ones_all(self):
        for x in range(-4, 5):
            for y in range(-4, 5):
                for z in range(-4, 5):
                    if (x, y, z) != (0, 0, 0):
                        self.told(oracle((x, y, z)), kept_triple, (x, y, z))

    def test_many_figures(self):
        for three in triples():
            for factor in (1, -1, 6, -10, THIRTY, -FORTY):
                self.told(three, kept_triple, tuple(factor * number for number in three))

    def test_all_nought(self):
        self.refused("NoTriple", kept_triple, (0, 0, 0))

    def test_anything(self):
        for thing in anything() + [(1, 2), (1, 1, -1, 0, 0, 0), [1, 2, 3], (0, 0), (0, 0, False), [0, 0, 0]]:
            self.refused("NoTriple", kept_triple, thing)


class IsTriple(Case):
    def test_triples(self):
        for three in triples():
            self.told(True, is_triple, three)

    def test_small_ones_all(self):
        for x in range(-4, 5):
            for y in range(-4, 5):
                for z in range(-4, 5):
                    three = (x, y, z)
                    self.told(three != (0, 0, 0) and oracle(three) == three, is_triple, three)

    def test_none(self):
        for thing in NO_TRIPLES:
            self.told(False, is_triple, thing)


class JoinedAndCrossed(Case):
    def test_ordinary_ones(self):
        self.told((0, 0, 1), joined, (1, 0, 0), (0, 1, 0))
        self.told((1, 1, -1), joined, (1, 0, 1), (0, 1, 1))
        self.told((1, 1, -1), joined, (0, 1, 1), (1, 0, 1))
        self.told((1, -1, 0), joined, (0, 0, 1), (1, 1, 1))
        self.told((2, 3, 1), crossed, (1, 0, -2), (0, 1, -3))
        self.told((1, 2, 0), crossed, (2, -1, 0), (2, -1, 1))

    def test_all_two_by_two(self):
        some = triples()
        for one in some[::3]:
            for other in some:
                if one == other:
                    continue
                line = joined(one, other)
                self.assertEqual(oracle(line), line)
                for end in (one, other):
                    self.assertEqual(sum(x * y for x, y in zip(end, line)), 0)
                    self.told(True, lies_on, end, line)
                self.told(line, joined, other, one)
                self.told(line, crossed, one, other)
                self.told(line, crossed, other, one)

    def test_two_lines_through_a_point_cross_there(self):
        some = triples()
        for middle, one, other in zip(some, some[7:], some[19:]):
            if joined(middle, one) != joined(middle, other):
                self.told(middle, crossed, joined(middle, one), joined(middle, other))

    def test_no_triple_in_either_place(self):
        for function in (joined, crossed):
            for thing in NO_TRIPLES:
                self.refused("NoTriple", function, thing, (1, 2, 3))
                self.refused("NoTriple", function, (1, 2, 3), thing)
                self.refused("NoTriple", function, thing, thing)

    def test_alike(self):
        for function in (joined, crossed):
            for three in triples():
                self.refused("Alike", function, three, three)

    def test_no_triple_is_told_ahead_of_alike(self):
        for function in (joined, crossed):
            self.refused("NoTriple", function, (2, 4, 6), (2, 4, 6))
            self.refused("NoTriple", function, (2, 4, 6), (1, 2, 3))
            self.refused("NoTriple", function, (1, 2, 3), (-1, -2, -3))
            self.refused("NoTriple", function, (0, 0, 0), (0, 0, 0))
            self.refused("NoTriple", function, (1, 0, 0), (True, False, False))
            self.refused("NoTriple", function, [1, 0, 0], [1, 0, 0])


class LiesOn(Case):
    def test_ordinary_ones(self):
        self.told(True, lies_on, (1, 2, 3), (1, 1, -1))
        self.told(False, lies_on, (1, 2, 3), (1, 1, 1))
        self.told(True, lies_on, (1, 0, 0), (0, 1, 0))
        self.told(False, lies_on, (1, 0, 0), (1, 0, 0))
        self.told(True, lies_on, (0, 0, 1), (5, 7, 0))
        self.told(True, lies_on, (0, 1, 0), (0, 0, 1))

    def test_many_figures(self):
        self.told(True, lies_on, (1, THIRTY, 0), (THIRTY, -1, 0))
        self.told(True, lies_on, (1, THIRTY, THIRTY + 1), (1, 1, -1))
        self.told(False, lies_on, (1, THIRTY, THIRTY), (1, 1, -1))
        self.told(False, lies_on, (1, THIRTY, 1), (THIRTY, -1, 1))

    def test_all_two_by_two(self):
        some = triples()
        for point in some[::2]:
            for line in some[::5]:
                self.told(sum(x * y for x, y in zip(point, line)) == 0, lies_on, point, line)

    def test_no_triple_in_either_place(self):
        for thing in NO_TRIPLES:
            self.refused("NoTriple", lies_on, thing, (1, 2, 3))
            self.refused("NoTriple", lies_on, (1, 2, 3), thing)
            self.refused("NoTriple", lies_on, thing, thing)


if __name__ == "__main__":
    unittest.main()
