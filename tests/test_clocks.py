"""[14] and [15]: clocks, and walks by rests."""

import unittest

from roundsides.clocks import clocks_of, rest_flags, rest_next, rest_order
from roundsides.curves import is_curve
from roundsides.pairs import is_pair
from roundsides.walks import next_flag
from tests.oracles import COUNTS, TABLES, counted_cubics, curves, flagged, pair_of_cubic, pair_with_flag
from tests.rest_oracles import (
    FEW_CLOCKS, SMALL_PRIMES, Rests, all_primes, moved, oracle_clocks, oracle_order, rest_threes, rests_of,
)
from tests.support import CIRCLE, FORTY, NO_CURVES, NO_NUMBERS, NO_PAIRS, THIRTY, Case, anything

OUTER, INNER = (1, 1, -4, 0, 0, 0), (1, 1, -1, 0, 2, 0)
CLOCK = 5
FLAGS = rest_flags(OUTER, INNER, CLOCK)

NO_CLOCKS = anything() + NO_NUMBERS + [
    4, 2, 1, 0, -1, -3, -5, 6, 8, 9, 10, 12, 14, 15, 20, 21, 24, 25, 27, 28, 30, 32, 33, 35, 37, 41, 43, 101, 65537,
    2 ** 61 - 1, 2 ** 89 - 1, -(2 ** 89 - 1), THIRTY, "5", "31", "11", (5,), [5], (5, 1), [7, 11],
]


def pairs():
    """Pairs of small numbers, of forty figures, such that come back and such that do not."""
    made = [(OUTER, INNER), (INNER, OUTER)] + [two[:2] for two in FEW_CLOCKS] + [two[:2] for two in flagged()]
    row = curves()
    made += [two for two in zip(row, row[1:]) if is_pair(*two)]
    return made


def some_clocks():
    """Pairs with one of their clocks each, so that every clock is there."""
    told = []
    for at, (outer, inner) in enumerate(pairs()):
        clocks = clocks_of(outer, inner)
        if clocks:
            told.append((outer, inner, clocks[at % len(clocks)]))
    return told


class ClocksOf(Case):
    def test_examples(self):
        # Both determinants are powers of 2, and the roots -1, -2 and -4 lie 1, 2 and 3 from one another.
        self.told([5, 7, 11, 13, 17, 19, 23, 29, 31], clocks_of, (1, 1, 1, 0, 0, 0), (1, 2, 4, 0, 0, 0))
        self.told([5, 7, 11, 13, 17, 19, 23, 29, 31], clocks_of, (1, 2, 4, 0, 0, 0), (1, 1, 1, 0, 0, 0))
        # 5 divides the inner one's determinant, then the outer one's; 3 the distance of two roots.
        self.told([7, 11, 13, 17, 19, 23, 29, 31], clocks_of, (1, 1, 1, 0, 0, 0), (1, 2, 5, 0, 0, 0))
        self.told([7, 11, 13, 17, 19, 23, 29, 31], clocks_of, (1, 2, 5, 0, 0, 0), (1, 1, 1, 0, 0, 0))
        # -1, -2 and -9 lie 1, 7 and 8 from one another.
        self.told([5, 11, 13, 17, 19, 23, 29, 31], clocks_of, (1, 1, 1, 0, 0, 0), (1, 2, 9, 0, 0, 0))
        # 31 divides one determinant, 29 the other; -31, -62 and -29 thirty-firsts lie 31, 33 and 2 of them apart.
        self.told([5, 7, 13, 17, 19, 23], clocks_of, (1, 1, 31, 0, 0, 0), (1, 2, 29, 0, 0, 0))

    def test_few_clocks(self):
        for outer, inner, clocks in FEW_CLOCKS:
            self.told(clocks, clocks_of, outer, inner)

    def test_each_clock_alone(self):
        for prime in SMALL_PRIMES:
            found = []
            for last in range(1, 9):
                outer, inner = (all_primes() // prime, 1, -1, 0, 0, 0), (1, 1, -last, 1, 0, 0)
                if is_pair(outer, inner):
                    self.told(oracle_clocks(outer, inner), clocks_of, outer, inner)
                    found.append(clocks_of(outer, inner))
            self.assertIn([prime], found)
            self.assertTrue(all(clocks in ([], [prime]) for clocks in found))

    def test_all_ten(self):
        found = 0
        for outer, inner in pairs():
            found += clocks_of(outer, inner) == SMALL_PRIMES
        self.assertGreater(found, 0)

    def test_as_reckoned_otherwise(self):
        seen = []
        for outer, inner in pairs():
            clocks = oracle_clocks(outer, inner)
            self.told(clocks, clocks_of, outer, inner)
            self.assertEqual(clocks_of(inner, outer), clocks)
            seen += clocks
        self.assertEqual(sorted(set(seen)), SMALL_PRIMES)

    def test_curves_of_forty_figures(self):
        outer, inner = (FORTY, 1, -1, 0, 0, 0), (1, FORTY + 2, 3, 1, 1, 1)
        self.told(oracle_clocks(outer, inner), clocks_of, outer, inner)

    def test_curves_moved_by_a_table(self):
        # What a table of worth 1 or 2 moves keeps its clocks: the determinants change by squares of that worth.
        for rows in (((1, 2, 0), (0, 1, 3), (0, 0, 1)), ((1, 0, 0), (5, 1, 0), (7, 2, 1)), ((1, 1, 0), (-1, 1, 0), (0, 0, 1))):
            for outer, inner in pairs()[:20]:
                self.assertEqual(clocks_of(moved(outer, rows), moved(inner, rows)), clocks_of(outer, inner))

    def test_refused(self):
        for thing in NO_CURVES:
            self.refused("NoCurve", clocks_of, thing, INNER)
            self.refused("NoCurve", clocks_of, OUTER, thing)
            self.refused("NoCurve", clocks_of, thing, thing)
        for one, other in NO_PAIRS:
            self.refused("NoPair", clocks_of, one, other)
            self.refused("NoPair", clocks_of, other, one)


class RestFlags(Case):
    def test_example(self):
        # A line (a, b, c) touches the circle about (-1, 0, 1) whose radius has the square 2 just where the square of
        # c - a is 2(aa + bb).
        for clock in (5, 11, 31):
            threes = rest_threes(clock)
            points = [(x, y, z) for x, y, z in threes if (x * x + y * y - 4 * z * z) % clock == 0]
            lines = [(a, b, c) for a, b, c in threes if ((c - a) ** 2 - 2 * (a * a + b * b)) % clock == 0]
            flags = [(point, line) for point in points for line in lines if Rests.meet(point, line, clock)]
            self.told(flags, rest_flags, OUTER, INNER, clock)

    def test_all_of_them_rising(self):
        clocks = []
        for outer, inner, clock in some_clocks():
            flags = rests_of(outer, inner, clock).flags
            self.told(flags, rest_flags, outer, inner, clock)
            self.assertEqual(flags, sorted(set(flags)))
            clocks.append(clock)
        self.assertEqual(sorted(set(clocks)), SMALL_PRIMES)

    def test_at_three_and_at_thirty_one(self):
        for outer, inner, clocks in FEW_CLOCKS:
            for clock in clocks:
                flags = rest_flags(outer, inner, clock)
                self.assertEqual(flags, rests_of(outer, inner, clock).flags)

    def test_there_always_are_some(self):
        for outer, inner in pairs():
            for clock in clocks_of(outer, inner):
                flags = rest_flags(outer, inner, clock)
                # As many as a cubic has spots by rests: near the clock and 1, off by two of its roots at most.
                self.assertGreaterEqual(len(flags), 1)
                self.assertLessEqual((len(flags) - clock - 1) ** 2, 4 * clock)

    def test_flags_of_whole_numbers_have_their_rests_among_them(self):
        for outer, inner, flag in flagged():
            for clock in clocks_of(outer, inner)[:4]:
                told = tuple(self.rest(three, clock) for three in flag)
                self.assertIn(told, rest_flags(outer, inner, clock))

    @staticmethod
    def rest(three, clock):
        lead = next(number for number in three if number % clock)
        return tuple(number * pow(lead, -1, clock) % clock for number in three)


class RestNext(Case):
    def test_as_looked_for_otherwise(self):
        touches = meets = 0
        for outer, inner, clock in some_clocks():
            rests = rests_of(outer, inner, clock)
            for flag in rests.flags:
                after = rests.after(flag)
                self.told(after, rest_next, outer, inner, clock, flag)
                touches += after[0] == flag[0]
                meets += after[1] == flag[1]
                if after[1] == flag[1]:
                    self.assertIn(after[0], rests.inside)
        self.assertGreater(touches, 20)
        self.assertGreater(meets, 20)

    def test_all_are_the_next_of_just_one(self):
        for outer, inner, clock in some_clocks():
            flags = rest_flags(outer, inner, clock)
            self.assertEqual(sorted(rest_next(outer, inner, clock, flag) for flag in flags), flags)

    def test_rests_of_a_next_flag(self):
        for outer, inner, flag in flagged():
            after = next_flag(outer, inner, flag)
            for clock in clocks_of(outer, inner)[:4]:
                told = tuple(RestFlags.rest(three, clock) for three in flag)
                wanted = tuple(RestFlags.rest(three, clock) for three in after)
                self.told(wanted, rest_next, outer, inner, clock, told)

    def test_no_flag(self):
        point, line = FLAGS[0]
        self.told(rests_of(OUTER, INNER, CLOCK).after(FLAGS[0]), rest_next, OUTER, INNER, CLOCK, (point, line))
        for thing in anything() + [
            (point,), (point, line, line), [point, line], (list(point), line), (point, list(line)), (point, None),
            (None, line), (point, line[:2]), (line + (0,), line), ((0, 0, 0), line), (point, (0, 0, 0)),
            ("100", "010"), (point, "abc"), FLAGS, FLAGS[0][:1], (FLAGS[0],), (FLAGS[0], FLAGS[0]), THIRTY,
        ]:
            self.refused("NoFlag", rest_next, OUTER, INNER, CLOCK, thing)

    def test_triples_by_rests_alone(self):
        for point, line in FLAGS:
            for at in range(3):
                for much in (CLOCK, -CLOCK, CLOCK * THIRTY):
                    self.refused("NoFlag", rest_next, OUTER, INNER, CLOCK, (self.changed(point, at, much), line))
                    self.refused("NoFlag", rest_next, OUTER, INNER, CLOCK, (point, self.changed(line, at, much)))
            for times in (2, 3, 4, -1):
                for bent in ([times * x % CLOCK for x in point], [times * x for x in point]):
                    self.refused("NoFlag", rest_next, OUTER, INNER, CLOCK, (tuple(bent), line))
                for bent in ([times * x % CLOCK for x in line], [times * x for x in line]):
                    self.refused("NoFlag", rest_next, OUTER, INNER, CLOCK, (point, tuple(bent)))
            for at in range(3):
                if point[at] in (0, 1):
                    bent = point[:at] + (bool(point[at]),) + point[at + 1:]
                    self.refused("NoFlag", rest_next, OUTER, INNER, CLOCK, (bent, line))

    @staticmethod
    def changed(three, at, much):
        return three[:at] + (three[at] + much,) + three[at + 1:]

    def test_each_of_the_three_is_needed(self):
        for outer, inner, clock in ((OUTER, INNER, 5), ((1, 1, 1, 0, 0, 0), (1, 2, 4, 0, 0, 0), 7)):
            rests = rests_of(outer, inner, clock)
            for point in rest_threes(clock):
                for line in rest_threes(clock):
                    if (point, line) not in rests.flags:
                        with self.assertRaises(ValueError) as caught:
                            rest_next(outer, inner, clock, (point, line))
                        self.assertEqual(type(caught.exception).__name__, "NoFlag")


class RestOrder(Case):
    def test_against_walks_gone_flag_by_flag(self):
        for outer, inner, clock in some_clocks():
            self.told(oracle_order(outer, inner, clock), rest_order, outer, inner, clock)

    def test_every_clock(self):
        for outer, inner in ((OUTER, INNER), pair_with_flag(9, 2)[:2], pair_with_flag(36, 99)[:2]):
            for clock in clocks_of(outer, inner):
                self.told(oracle_order(outer, inner, clock), rest_order, outer, inner, clock)

    def test_each_flag_is_there_again_behind_it_and_not_earlier(self):
        for outer, inner, clock in some_clocks()[::5]:
            order = rest_order(outer, inner, clock)
            self.assertGreaterEqual(order, 3)
            for first in rest_flags(outer, inner, clock):
                flags = [first]
                for _ in range(order):
                    flags.append(rest_next(outer, inner, clock, flags[-1]))
                self.assertEqual(flags[order], first)
                self.assertEqual(len(set(flags)), order)

    def test_counts_are_the_order_of_every_clock(self):
        for count in COUNTS:
            tried = 0
            for cubic in counted_cubics(count):
                outer, inner, _ = pair_of_cubic(cubic)
                for rows in TABLES[:3]:
                    one, other = moved(outer, rows), moved(inner, rows)
                    for clock in clocks_of(one, other):
                        self.assertEqual(rest_order(one, other, clock), count)
                        tried += 1
            self.assertGreater(tried, 10)


class Refused(Case):
    def calls(self, outer, inner, clock):
        return [(rest_flags, (outer, inner, clock)), (rest_order, (outer, inner, clock)),
                (rest_next, (outer, inner, clock, FLAGS[0])), (rest_next, (outer, inner, clock, None))]

    def test_no_curve(self):
        for thing in NO_CURVES:
            for clock in (5, 4, None, True):
                for function, handed in self.calls(thing, INNER, clock) + self.calls(OUTER, thing, clock):
                    self.refused("NoCurve", function, *handed)

    def test_no_pair(self):
        for one, other in NO_PAIRS:
            self.assertTrue(is_curve(one) and is_curve(other))
            for clock in (5, 7, 4, None, True):
                for function, handed in self.calls(one, other, clock) + self.calls(other, one, clock):
                    self.refused("NoPair", function, *handed)

    def test_no_clock(self):
        for thing in NO_CLOCKS:
            for function, handed in self.calls(OUTER, INNER, thing):
                self.refused("NoClock", function, *handed)

    def test_primes_that_divide_what_is_named(self):
        # 5 the inner determinant, then the outer one; 3 and 7 what makes them a pair.
        for outer, inner, clock in (
            ((1, 1, 1, 0, 0, 0), (1, 2, 5, 0, 0, 0), 5), ((1, 2, 5, 0, 0, 0), (1, 1, 1, 0, 0, 0), 5),
            ((1, 1, 1, 0, 0, 0), (1, 2, 4, 0, 0, 0), 3), ((1, 1, 1, 0, 0, 0), (1, 2, 9, 0, 0, 0), 7),
            ((1, 1, 31, 0, 0, 0), (1, 2, 1, 0, 0, 0), 31),
        ):
            for function, handed in self.calls(outer, inner, clock):
                self.refused("NoClock", function, *handed)

    def test_none_of_two_curves_without_any(self):
        for outer, inner, clocks in FEW_CLOCKS:
            for clock in SMALL_PRIMES:
                if clock not in clocks:
                    for function, handed in self.calls(outer, inner, clock):
                        self.refused("NoClock", function, *handed)

    def test_in_their_order(self):
        for bad in (None, (1, 1, 0, 0, 0, 0), list(CIRCLE), (2, 2, -2, 0, 0, 0)):
            self.refused("NoCurve", rest_next, bad, CIRCLE, 4, None)
            self.refused("NoCurve", rest_next, CIRCLE, bad, 4, None)
            self.refused("NoPair", rest_next, CIRCLE, CIRCLE, bad, bad)
            self.refused("NoClock", rest_next, OUTER, INNER, bad, bad)
            self.refused("NoFlag", rest_next, OUTER, INNER, 5, bad)


class Untouched(Case):
    def test_clocks_told_are_the_askers_own(self):
        first, copied, second = clocks_of(OUTER, INNER), clocks_of(OUTER, INNER), clocks_of(OUTER, INNER)
        first.clear()
        second.append(4)
        second[0] = 37
        self.told(copied, clocks_of, OUTER, INNER)
        self.refused("NoClock", rest_order, OUTER, INNER, 4)
        self.refused("NoClock", rest_order, OUTER, INNER, 37)
        self.assertEqual(rest_order(OUTER, INNER, copied[0]), oracle_order(OUTER, INNER, copied[0]))

    def test_flags_told_are_the_askers_own(self):
        order = rest_order(OUTER, INNER, CLOCK)
        first, second = rest_flags(OUTER, INNER, CLOCK), rest_flags(OUTER, INNER, CLOCK)
        first.reverse()
        first.pop()
        second[0] = None
        self.told(FLAGS, rest_flags, OUTER, INNER, CLOCK)
        self.told(order, rest_order, OUTER, INNER, CLOCK)

    def test_kinds(self):
        for flag in FLAGS + [rest_next(OUTER, INNER, CLOCK, FLAGS[0])]:
            self.assertEqual([type(part) for part in (flag,) + flag], [tuple] * 3)
            self.assertEqual([type(number) for part in flag for number in part], [int] * 6)


if __name__ == "__main__":
    unittest.main()
