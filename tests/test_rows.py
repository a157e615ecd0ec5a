"""[11] and [12]: the row, its tables, coming back."""

import unittest
from fractions import Fraction
from itertools import permutations

from roundsides.fracs import is_fraction
from roundsides.pairs import pair_cubic
from roundsides.rows import comes_back, ring_table, root_row, table_worth
from roundsides.walks import walk
from tests.oracles import (
    COUNTS, LOOSE_CUBICS, all_cubics, as_fraction, counted_cubics, flagged, pair_of_cubic, pair_with_flag,
)
from tests.support import FLAT_CUBICS, FORTY, NO_CUBICS, NO_NUMBERS, Case, anything, number_row

CUBIC = ((7, 2), (9, 2), (2, 1))
TEN = 10 ** 40 - 1


def oracle_row(cubic, many):
    """The row by the words of the document, its fractions reckoned by Python's own."""
    numbers = [Fraction(1)] + [Fraction(*part) for part in cubic]
    row = [Fraction(1)]
    for n in range(1, many + 1):
        wanted = numbers[n] if n <= 3 else 0
        row.append((wanted - sum(row[i] * row[n - i] for i in range(1, n))) / 2)
    return row


def oracle_table(cubic, sides):
    row = [as_fraction(number) for number in oracle_row(cubic, 30)]
    m = sides // 2
    if sides % 2:
        return [[row[2 + i + j] for j in range(m)] for i in range(m)]
    return [[row[3 + i + j] for j in range(m - 1)] for i in range(m - 1)]


def orders_worth(rows):
    """The determinant by all orders of rows."""
    total = Fraction(0)
    for order in permutations(range(len(rows))):
        product = Fraction((-1) ** sum(order[i] > order[k] for k in range(len(order)) for i in range(k)))
        for at, row in enumerate(order):
            product *= Fraction(*rows[row][at])
        total += product
    return as_fraction(total)


def rows_from_one_another(rows):
    """The determinant by taking rows from one another, in Python's own fractions."""
    left = [[Fraction(*part) for part in row] for row in rows]
    total = Fraction(1)
    while left:
        lead = next((row for row in left if row[0] != 0), None)
        if lead is None:
            return (0, 1)
        total *= lead[0] * (-1) ** left.index(lead)
        left = [[x - row[0] / lead[0] * y for x, y in zip(row, lead)][1:] for row in left if row is not lead]
    return as_fraction(total)


def table_of(numbers, size):
    return [[(numbers[size * i + k], 1) for k in range(size)] for i in range(size)]


def fraction_table(seed, size, most):
    """A table of fractions of numbers up to most above and below."""
    row = number_row(seed, 2 * size * size, most)
    fractions = [as_fraction(Fraction(row[2 * at], abs(row[2 * at + 1]) or 1)) for at in range(size * size)]
    return [fractions[size * at:size * at + size] for at in range(size)]


ONE = [[(int(i == k), 1) for k in range(12)] for i in range(12)]

NO_TABLES = [thing for thing in anything() if thing != []] + [
    (), ((),), [[]], [[], []], [()], ([(1, 1)],), [((1, 1),)], [(1, 1)], [[(1, 1), (1, 1)]], [[(1, 1)], [(1, 1)]],
    [[(1, 1), (0, 1)], [(1, 1)]], [[(1, 1)], [(1, 1), (0, 1)]], [[(1, 1), (0, 1)], []], [[(1, 1), (0, 1)], ((1, 1), (0, 1))],
    [[(1, 1), (0, 1)], None], [[(1, 1), (0, 1)], "ab"], [[1]], [["1"]], [[True]], [[None]], [[[1, 1]]], [[(1, 0)]],
    [[(2, 2)]], [[(1, -1)]], [[(True, 1)]], [[(1, True)]], [[(1, 1, 1)]], [[(0, 2)]],
    [[(1, 1), (0, 1)], [(0, 1), (2, 4)]], [[(1, 1), (0, 1)], [1, (1, 1)]],
    ONE[:11], [row[:11] for row in ONE], [row + [(0, 1)] for row in ONE], ONE + [ONE[0]],
    [[(1, 1)] * 13 for _ in range(13)], [[(1, 1)] * 100 for _ in range(100)], [ONE], tuple(ONE),
    [[(int(i == k), 1) for k in range(13)] for i in range(13)],
]


class RootRow(Case):
    def test_examples(self):
        self.told([(1, 1)], root_row, CUBIC, 0)
        self.told([(1, 1), (7, 4)], root_row, CUBIC, 1)
        self.told([(1, 1), (7, 4), (23, 32), (-33, 128)], root_row, CUBIC, 3)
        # The row of 1 + ttt, and that of (1 + t)(1 + t) + ttt.
        self.told([(1, 1), (0, 1), (0, 1), (1, 2), (0, 1), (0, 1), (-1, 8)], root_row, ((0, 1), (0, 1), (1, 1)), 6)
        self.told([(1, 1), (1, 1), (0, 1), (1, 2), (-1, 2)], root_row, ((2, 1), (1, 1), (1, 1)), 4)

    def test_as_the_words_tell(self):
        for cubic in all_cubics():
            row = [as_fraction(number) for number in oracle_row(cubic, 30)]
            for many in (0, 1, 2, 3, 4, 5, 11, 29, 30):
                self.told(row[:many + 1], root_row, cubic, many)

    def test_its_square_is_the_cubic(self):
        for cubic in all_cubics():
            told = root_row(cubic, 30)
            self.assertEqual(len(told), 31)
            self.assertTrue(all(is_fraction(part) for part in told))
            row = [Fraction(*part) for part in told]
            numbers = [Fraction(1)] + [Fraction(*part) for part in cubic] + [Fraction(0)] * 27
            for n in range(31):
                self.assertEqual(sum(row[i] * row[n - i] for i in range(n + 1)), numbers[n])

    def test_every_number(self):
        row = [as_fraction(number) for number in oracle_row(CUBIC, 30)]
        for many in range(31):
            self.told(row[:many + 1], root_row, CUBIC, many)

    def test_many_figures(self):
        for cubic in (
            ((TEN, 1), (-TEN, 2), (TEN - 2, TEN - 1)), ((1, TEN), (-3, TEN - 2), (7, TEN - 3)),
            ((FORTY, TEN), (-TEN, FORTY), (TEN, FORTY)), pair_cubic(*pair_with_flag(34, 99)[:2]),
        ):
            cubic = tuple(as_fraction(Fraction(*part)) for part in cubic)
            self.told([as_fraction(number) for number in oracle_row(cubic, 30)], root_row, cubic, 30)

    def test_refused(self):
        for thing in NO_CUBICS:
            self.refused("NoCubic", root_row, thing, 3)
            self.refused("NoCubic", root_row, thing, -1)
            self.refused("NoCubic", root_row, thing, thing)
        for bad in NO_NUMBERS + [-1, 31, 32, -30]:
            self.refused("TooMany", root_row, CUBIC, bad)


class RingTable(Case):
    def test_examples(self):
        self.told([[(23, 32)]], ring_table, CUBIC, 3)
        self.told([[(-33, 128)]], ring_table, CUBIC, 4)
        s = root_row(CUBIC, 9)
        self.told([[s[2], s[3]], [s[3], s[4]]], ring_table, CUBIC, 5)
        self.told([[s[3], s[4]], [s[4], s[5]]], ring_table, CUBIC, 6)
        self.told([s[2:5], s[3:6], s[4:7]], ring_table, CUBIC, 7)
        self.told([s[3:6], s[4:7], s[5:8]], ring_table, CUBIC, 8)
        self.told([s[2:6], s[3:7], s[4:8], s[5:9]], ring_table, CUBIC, 9)

    def test_every_number_of_sides(self):
        for cubic in (CUBIC, LOOSE_CUBICS[1], counted_cubics(7)[0], counted_cubics(12)[1]):
            for sides in range(3, 25):
                table = ring_table(cubic, sides)
                self.told(oracle_table(cubic, sides), ring_table, cubic, sides)
                self.assertEqual(len(table), (sides - 1) // 2)

    def test_refused(self):
        for thing in NO_CUBICS:
            self.refused("NoCubic", ring_table, thing, 3)
            self.refused("NoCubic", ring_table, thing, 2)
            self.refused("NoCubic", ring_table, thing, thing)
        for bad in NO_NUMBERS + [2, 1, 0, -1, -3, 25, 26, 30, 100]:
            self.refused("TooMany", ring_table, CUBIC, bad)


class TableWorth(Case):
    def test_examples(self):
        self.told((1, 1), table_worth, [])
        self.told((-3, 7), table_worth, [[(-3, 7)]])
        self.told((0, 1), table_worth, [[(0, 1)]])
        self.told((-2, 1), table_worth, table_of([1, 2, 3, 4], 2))
        self.told((-1, 1), table_worth, table_of([0, 1, 1, 0], 2))
        self.told((0, 1), table_worth, table_of([0, 0, 1, 5], 2))
        self.told((1, 12), table_worth, [[(1, 1), (1, 2)], [(1, 2), (1, 3)]])
        self.told((-1, 36), table_worth, [[(1, 2), (1, 3)], [(1, 3), (1, 6)]])
        self.told((6, 1), table_worth, table_of([0, 2, 0, 0, 0, 3, 1, 0, 0], 3))

    def test_of_one(self):
        for size in range(13):
            self.told((1, 1), table_worth, [row[:size] for row in ONE[:size]])

    def test_orders_of_rows(self):
        for size in (2, 3, 4, 5):
            for order in permutations(range(size)):
                rows = [ONE[at][:size] for at in order]
                self.told(orders_worth(rows), table_worth, rows)

    def test_small_numbers_with_many_noughts(self):
        for seed in range(40):
            for size in (2, 3, 4, 5):
                rows = table_of(number_row(500 + seed, size * size, 1), size)
                self.told(orders_worth(rows), table_worth, rows)
        for at in range(3 ** 4):
            rows = table_of([at // 3 ** k % 3 - 1 for k in range(4)], 2)
            self.told(orders_worth(rows), table_worth, rows)

    def test_fractions(self):
        for seed in range(12):
            for size in (1, 2, 3, 4, 5):
                rows = fraction_table(700 + seed, size, 12)
                self.told(orders_worth(rows), table_worth, rows)

    def test_every_size(self):
        for size in range(1, 13):
            rows = fraction_table(800 + size, size, 99)
            worth = rows_from_one_another(rows)
            self.assertNotEqual(worth, (0, 1))
            self.told(worth, table_worth, rows)
            # Two like rows, and a row that is a mix of others.
            if size > 1:
                self.told((0, 1), table_worth, rows[:-1] + [rows[0]])
                self.told((-worth[0], worth[1]), table_worth, [rows[-1]] + rows[1:-1] + [rows[0]])
            if size > 2:
                mix = [as_fraction(3 * Fraction(*x) - Fraction(*y) / 7) for x, y in zip(rows[0], rows[1])]
                self.told((0, 1), table_worth, [mix] + rows[:-1])

    def test_twelve_rows_of_many_figures(self):
        rows = fraction_table(900, 12, TEN)
        self.told(rows_from_one_another(rows), table_worth, rows)
        self.told((0, 1), table_worth, rows[:-1] + [rows[3]])

    def test_twelve_rows_of_known_worth(self):
        hilbert = [[(1, 1 + i + k) for k in range(12)] for i in range(12)]
        self.told(rows_from_one_another(hilbert), table_worth, hilbert)
        turned = [ONE[11 - at] for at in range(12)]
        self.told((1, 1), table_worth, turned)
        self.told((-1, 1), table_worth, [row[:11] for row in [ONE[10 - at] for at in range(11)]])

    def test_a_row_that_stands_there_twice_as_one_list(self):
        row = [(1, 2), (2, 3)]
        self.told((0, 1), table_worth, [row, row])

    def test_refused(self):
        for thing in NO_TABLES:
            self.refused("NoTable", table_worth, thing)
        for bad in [thing for thing in anything() if thing not in ((1, 2), (1, 1))]:
            self.refused("NoTable", table_worth, [[bad]])
            self.refused("NoTable", table_worth, [[(1, 1), (0, 1)], [(0, 1), bad]])
            self.refused("NoTable", table_worth, [[(1, 1), (0, 1)], bad])


class ComesBack(Case):
    def test_counts(self):
        for count in COUNTS:
            cubics = counted_cubics(count)
            self.assertGreater(len(cubics), 3)
            for cubic in cubics:
                for sides in range(3, 25):
                    self.told(sides % count == 0, comes_back, cubic, sides)

    def test_never(self):
        for cubic in LOOSE_CUBICS:
            for sides in range(3, 25):
                self.told(False, comes_back, cubic, sides)

    def test_as_the_table_tells(self):
        for cubic in all_cubics():
            for sides in (3, 4, 5, 6, 12, 17, 24):
                self.told(rows_from_one_another(oracle_table(cubic, sides)) == (0, 1), comes_back, cubic, sides)

    def test_as_walks_tell(self):
        for outer, inner, flag in flagged():
            cubic = pair_cubic(outer, inner)
            flags = walk(outer, inner, flag, 24)
            for sides in range(3, 25):
                self.assertIs(comes_back(cubic, sides), flags[sides] == flag)

    def test_the_same_by_another_t(self):
        for count in COUNTS:
            for cubic in counted_cubics(count):
                by_curves = pair_cubic(*pair_of_cubic(cubic)[:2])
                self.told(True, comes_back, by_curves, count)
                self.told(True, comes_back, by_curves, 2 * count)

    def test_refused(self):
        for thing in NO_CUBICS:
            self.refused("NoCubic", comes_back, thing, 3)
            self.refused("NoCubic", comes_back, thing, 2)
            self.refused("NoCubic", comes_back, thing, thing)
        for bad in NO_NUMBERS + [2, 1, 0, -1, -3, 25, 26, 30, 100]:
            self.refused("TooMany", comes_back, CUBIC, bad)

    def test_no_cubic_is_told_ahead_of_too_many(self):
        for function in (root_row, ring_table, comes_back):
            for cubic in FLAT_CUBICS:
                for bad in (-1, 2, 31, 25, True, None, "3"):
                    self.refused("NoCubic", function, cubic, bad)


class Untouched(Case):
    def test_a_row_told_is_the_askers_own(self):
        first = root_row(CUBIC, 6)
        copied = list(first)
        second = root_row(CUBIC, 6)
        first[2] = (0, 1)
        first.append(None)
        self.assertEqual(second, copied)
        second.clear()
        self.told(copied, root_row, CUBIC, 6)
        self.told([copied[2:5], copied[3:6], copied[4:7]], ring_table, CUBIC, 7)

    def test_a_table_told_is_the_askers_own(self):
        first = ring_table(CUBIC, 9)
        wanted = oracle_table(CUBIC, 9)
        second = ring_table(CUBIC, 9)
        whether = comes_back(CUBIC, 9)
        worth = table_worth(first)
        for row in first:
            row[0] = (0, 1)
        first[0].append("a")
        first.pop()
        self.assertEqual(second, wanted)
        second[1].clear()
        self.told(wanted, ring_table, CUBIC, 9)
        self.told(whether, comes_back, CUBIC, 9)
        self.told(worth, table_worth, wanted)
        # The rows of one table are no one list.
        table = ring_table(CUBIC, 9)
        table[0].clear()
        self.assertEqual(table[1:], wanted[1:])

    def test_a_table_handed_in_may_be_changed(self):
        rows = table_of([1, 2, 3, 4], 2)
        self.told((-2, 1), table_worth, rows)
        rows[1][1] = (6, 1)
        self.told((0, 1), table_worth, rows)
        rows[1].pop()
        self.refused("NoTable", table_worth, rows)
        rows[1].append((4, 1))
        self.told((-2, 1), table_worth, rows)


if __name__ == "__main__":
    unittest.main()
