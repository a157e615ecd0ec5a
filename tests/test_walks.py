"""[9]: flags and walks."""

import unittest
from itertools import product

from roundsides.curves import curve_has, curve_touches
from roundsides.pairs import is_pair
from roundsides.points import crossed, is_triple, joined, lies_on
from roundsides.walks import flag_back, is_flag, next_flag, walk
from tests.oracles import (
    COUNTS, LOOSE_CUBICS, counted_cubics, flagged, meeting_flag, oracle_next, pair_of_cubic, pair_with_flag,
    touching_flag,
)
from tests.support import CIRCLE, NO_CURVES, NO_NUMBERS, NO_PAIRS, NO_TRIPLES, THIRTY, Case, anything

OUTER = (27, 2, 0, 4, -54, -57)
INNER = (4, 4, 25, 20, 20, -48)
FLAG = ((0, 0, 1), (0, 1, 0))

NO_FLAGS = anything() + [
    ((0, 0, 1),), ((0, 0, 1), (0, 1, 0), (0, 1, 0)), [(0, 0, 1), (0, 1, 0)], ([0, 0, 1], (0, 1, 0)),
    ((0, 0, 1), [0, 1, 0]), ((0, 0, 2), (0, 1, 0)), ((0, 0, -1), (0, 1, 0)), ((0, 0, 1), (0, -1, 0)),
    ((0, 0, 1), (0, 2, 0)), ((0, 0, 0), (0, 1, 0)), ((0, 0, 1), (0, 0, 0)), ((0, 0, True), (0, 1, 0)),
    ((0, 0, 1), (0, True, 0)), ((0, 0, 1), (0, 1, False)), ((0, 0, 1), None), (None, (0, 1, 0)), ((0, 0, 1), "010"),
    ("001", "010"), ((0, 1), (0, 1)), (FLAG,), (FLAG, FLAG), ((0, 1, 0), (0, 0, 1)),
    # The point lies on the outer curve, but not on the line; on the line alone; with a line that touches nothing.
    ((2, 27, 2), (0, 1, 0)), ((1, 0, 1), (0, 1, 0)), ((1, 0, 0), (0, 1, 0)), ((0, 0, 1), (1, -1, 0)),
    ((0, 0, 1), (1, 1, 0)), ((0, 0, 1), (THIRTY, 1, 0)), ((THIRTY, 0, 1), (0, 1, 0)),
]


def small_triples(most):
    return [three for three in product(range(-most, most + 1), repeat=3) if is_triple(three)]


def small_flags(outer, inner, most):
    """All flags of small numbers, by the words of the document."""
    points = [three for three in small_triples(most) if curve_has(outer, three)]
    lines = [three for three in small_triples(most) if curve_touches(inner, three)]
    return [(point, line) for point in points for line in lines if lies_on(point, line)]


class IsFlag(Case):
    def test_flags(self):
        for outer, inner, flag in flagged():
            self.told(True, is_flag, outer, inner, flag)

    def test_none(self):
        self.told(True, is_flag, OUTER, INNER, FLAG)
        for thing in NO_FLAGS:
            self.told(False, is_flag, OUTER, INNER, thing)

    def test_each_of_the_three_is_needed(self):
        outer, inner = (1, 1, -25, 0, 0, 0), (4, 1, -36, 0, 0, 0)
        # On the curve, on the line, touching; then with one of them amiss, each in turn.
        self.told(True, is_flag, outer, inner, ((3, 4, 1), (1, 0, -3)))
        self.told(True, is_flag, outer, inner, ((3, -4, 1), (1, 0, -3)))
        self.told(False, is_flag, outer, inner, ((3, 5, 1), (1, 0, -3)))
        self.told(False, is_flag, outer, inner, ((4, 3, 1), (1, 0, -3)))
        self.told(False, is_flag, outer, inner, ((4, 3, 1), (1, 0, -4)))
        self.told(False, is_flag, outer, inner, ((1, 0, -3), (3, 4, 1)))

    def test_all_small_ones(self):
        outer, inner = (1, 1, -2, 0, 0, 0), (1, 2, -1, 0, 0, 0)
        flags = small_flags(outer, inner, 2)
        self.assertIn(((1, 1, 1), (1, 0, -1)), flags)
        for point in small_triples(2):
            for line in small_triples(2):
                self.assertIs(is_flag(outer, inner, (point, line)), (point, line) in flags)

    def test_outer_and_inner_are_not_to_be_swapped(self):
        for outer, inner, flag in flagged()[:9]:
            whether = curve_has(inner, flag[0]) and curve_touches(outer, flag[1])
            self.told(whether, is_flag, inner, outer, flag)

    def test_figures_of_a_long_walk(self):
        outer, inner, flag = pair_with_flag(18, 20)
        point, line = walk(outer, inner, flag, 30)[30]
        self.told(True, is_flag, outer, inner, (point, line))
        self.told(False, is_flag, outer, inner, (point, flag[1]))
        self.told(False, is_flag, outer, inner, (flag[0], line))
        self.told(False, is_flag, outer, inner, (point, line[:2] + (line[2] + 1,)))


class NextFlag(Case):
    def test_examples(self):
        outer, inner = (1, 1, -25, 0, 0, 0), (4, 1, -36, 0, 0, 0)
        self.told(((3, -4, 1), (5, -6, -39)), next_flag, outer, inner, ((3, 4, 1), (1, 0, -3)))
        self.told(((3, 4, 1), (5, 6, -39)), next_flag, outer, inner, ((3, -4, 1), (1, 0, -3)))
        self.told(((3, 4, 1), (1, 0, -3)), flag_back, outer, inner, ((3, -4, 1), (5, -6, -39)))

    def test_as_reckoned_otherwise(self):
        for outer, inner, flag in flagged():
            for _ in range(4):
                self.told(oracle_next(outer, inner, flag), next_flag, outer, inner, flag)
                flag = next_flag(outer, inner, flag)

    def test_by_the_words_of_the_document(self):
        for outer, inner, flag in flagged():
            for _ in range(4):
                point, line = flag
                other_point, other_line = flag = next_flag(outer, inner, flag)
                self.assertTrue(is_flag(outer, inner, flag))
                self.assertTrue(lies_on(other_point, line))
                if other_point == point:
                    self.assertTrue(curve_touches(outer, line))
                else:
                    self.assertEqual(joined(point, other_point), line)
                if other_line == line:
                    self.assertTrue(curve_has(inner, other_point))
                else:
                    self.assertEqual(crossed(line, other_line), other_point)

    def test_all_small_ones(self):
        for outer, inner in (((1, 1, -2, 0, 0, 0), (1, 2, -1, 0, 0, 0)), ((1, 1, -25, 0, 0, 0), (4, 1, -36, 0, 0, 0))):
            flags = small_flags(outer, inner, 6)
            self.assertGreater(len(flags), 3)
            for flag in flags:
                self.told(oracle_next(outer, inner, flag), next_flag, outer, inner, flag)
                self.told(flag, flag_back, outer, inner, next_flag(outer, inner, flag))
                self.told(flag, next_flag, outer, inner, flag_back(outer, inner, flag))

    def test_back_undoes_it(self):
        for outer, inner, flag in flagged():
            before = flag_back(outer, inner, flag)
            self.assertTrue(is_flag(outer, inner, before))
            self.told(flag, next_flag, outer, inner, before)
            self.told(flag, flag_back, outer, inner, next_flag(outer, inner, flag))
            self.told(before, flag_back, outer, inner, flag)

    def test_where_the_line_touches_the_outer_curve(self):
        outer, inner, (point, line) = touching_flag()
        self.assertTrue(is_pair(outer, inner))
        self.assertTrue(curve_touches(outer, line))
        other_point, other_line = next_flag(outer, inner, (point, line))
        self.assertEqual(other_point, point)
        self.assertNotEqual(other_line, line)
        self.told((point, other_line), next_flag, outer, inner, (point, line))
        # A walk goes the same way to and fro around such a side.
        self.told((point, line), flag_back, outer, inner, (point, other_line))
        back = flag_back(outer, inner, (point, line))
        self.assertEqual(back[1], other_line)
        self.assertEqual(back[0], next_flag(outer, inner, (point, other_line))[0])

    def test_where_the_point_lies_on_the_inner_curve(self):
        outer, inner, (point, line) = meeting_flag()
        self.assertTrue(is_pair(outer, inner))
        self.assertTrue(curve_has(inner, point))
        back = flag_back(outer, inner, (point, line))
        self.assertEqual(back[1], line)
        self.assertNotEqual(back[0], point)
        self.told((point, line), next_flag, outer, inner, back)
        self.assertEqual(next_flag(outer, inner, (point, line))[0], back[0])

    def test_both_edges_with_many_figures(self):
        root = 10 ** 15
        # The outer curve is met by the inner one in (1, 0, 0), and touched by the line of (0, 0, 1) there.
        outer, inner = (0, 1, 0, 0, -1, 0), (0, root * root, 1, root, 0, 7 * root + 1)
        flag = ((1, 0, 0), (0, 1, 0))
        self.told(True, is_flag, outer, inner, flag)
        self.told(((0, 0, 1), (0, 1, 0)), flag_back, outer, inner, flag)
        self.told(oracle_next(outer, inner, flag), next_flag, outer, inner, flag)
        self.told(flag, next_flag, outer, inner, ((0, 0, 1), (0, 1, 0)))


class Walk(Case):
    def test_of_no_sides(self):
        for outer, inner, flag in flagged():
            self.told([flag], walk, outer, inner, flag, 0)

    def test_each_is_the_next_one(self):
        for outer, inner, flag in flagged():
            flags = walk(outer, inner, flag, 6)
            self.assertEqual(len(flags), 7)
            self.assertEqual(flags[0], flag)
            for one, other in zip(flags, flags[1:]):
                self.assertEqual(next_flag(outer, inner, one), other)
                self.assertEqual(flag_back(outer, inner, other), one)

    def test_of_every_number_of_sides(self):
        outer, inner, flag = pair_with_flag(19, 2)
        flags = [flag]
        for many in range(31):
            self.told(flags, walk, outer, inner, flag, many)
            flags = flags + [oracle_next(outer, inner, flags[-1])]

    def test_of_thirty_sides_of_many_figures(self):
        for seed, most in ((2, 2), (16, 9), (34, 99)):
            outer, inner, flag = pair_with_flag(seed, most)
            flags = walk(outer, inner, flag, 30)
            self.assertEqual(len(flags), 31)
            for one, other in zip(flags[:8], flags[1:]):
                self.assertEqual(oracle_next(outer, inner, one), other)
            self.assertEqual(oracle_next(outer, inner, flags[29]), flags[30])
            self.assertTrue(is_flag(outer, inner, flags[30]))
            self.assertEqual(flag_back(outer, inner, flags[30]), flags[29])
            self.assertEqual(walk(outer, inner, flags[28], 2), flags[28:])

    def test_those_that_come_back(self):
        for sides in COUNTS:
            for cubic in counted_cubics(sides):
                outer, inner, flag = pair_of_cubic(cubic)
                flags = walk(outer, inner, flag, 30)
                self.assertEqual([at for at in range(31) if flags[at] == flag], list(range(0, 31, sides)))
                self.assertEqual(flags[sides:], flags[:-sides])
                self.assertEqual(len(set(flags)), sides)

    def test_from_whatever_first_flag(self):
        many = 0
        for sides in COUNTS:
            for cubic in counted_cubics(sides)[:2]:
                outer, inner, _ = pair_of_cubic(cubic)
                for flag in small_flags(outer, inner, 4):
                    flags = walk(outer, inner, flag, sides)
                    self.assertEqual(flags[sides], flag)
                    self.assertEqual(len(set(flags)), sides)
                    many += 1
        self.assertGreater(many, 60)

    def test_those_that_do_not(self):
        for cubic in LOOSE_CUBICS:
            outer, inner, flag = pair_of_cubic(cubic)
            self.assertEqual(len(set(walk(outer, inner, flag, 30))), 31)

    def test_bounds(self):
        for bad in NO_NUMBERS + [-1, 31, 32, -30, 100]:
            self.refused("TooMany", walk, OUTER, INNER, FLAG, bad)
        for many in (0, 1, 29, 30):
            self.assertEqual(len(walk(OUTER, INNER, FLAG, many)), many + 1)


class Refused(Case):
    def test_no_curve(self):
        for function in (is_flag, next_flag, flag_back):
            for thing in NO_CURVES:
                self.refused("NoCurve", function, thing, INNER, FLAG)
                self.refused("NoCurve", function, OUTER, thing, FLAG)
        for thing in NO_CURVES:
            self.refused("NoCurve", walk, thing, INNER, FLAG, 3)
            self.refused("NoCurve", walk, OUTER, thing, FLAG, 3)

    def test_no_pair(self):
        # Of some of these it would be a flag, were they a pair.
        flag = ((1, 0, 1), (1, 0, -1))
        for outer, inner in NO_PAIRS + [(CIRCLE, (4, 4, -1, 0, 0, 0)), (CIRCLE, CIRCLE)]:
            for function in (is_flag, next_flag, flag_back):
                self.refused("NoPair", function, outer, inner, flag)
                self.refused("NoPair", function, inner, outer, flag)
            self.refused("NoPair", walk, outer, inner, flag, 3)

    def test_no_flag(self):
        for thing in NO_FLAGS + NO_TRIPLES:
            self.refused("NoFlag", next_flag, OUTER, INNER, thing)
            self.refused("NoFlag", flag_back, OUTER, INNER, thing)
            self.refused("NoFlag", walk, OUTER, INNER, thing, 3)
            self.refused("NoFlag", walk, OUTER, INNER, thing, 0)

    def test_flags_of_other_curves(self):
        made = flagged()[:8]
        for outer, inner, _ in made:
            for _, _, flag in made:
                if not is_flag(outer, inner, flag):
                    self.refused("NoFlag", next_flag, outer, inner, flag)
                    self.refused("NoFlag", flag_back, outer, inner, flag)

    def test_in_their_order(self):
        for bad in (None, (1, 1, 0, 0, 0, 0), list(CIRCLE), (2, 2, -2, 0, 0, 0), (True, 1, -1, 0, 0, 0)):
            for function in (is_flag, next_flag, flag_back):
                self.refused("NoCurve", function, bad, bad, None)
                self.refused("NoCurve", function, CIRCLE, bad, None)
                self.refused("NoCurve", function, bad, CIRCLE, None)
                self.refused("NoPair", function, CIRCLE, CIRCLE, bad)
            for many in (-1, 31, None, True):
                self.refused("NoCurve", walk, bad, CIRCLE, None, many)
                self.refused("NoCurve", walk, CIRCLE, bad, None, many)
                self.refused("NoPair", walk, CIRCLE, CIRCLE, bad, many)
                self.refused("NoFlag", walk, OUTER, INNER, bad, many)
        for many in (-1, 31, None, True):
            self.refused("NoPair", walk, CIRCLE, CIRCLE, FLAG, many)
            self.refused("TooMany", walk, OUTER, INNER, FLAG, many)


class Untouched(Case):
    def test_a_list_told_is_the_askers_own(self):
        first = walk(OUTER, INNER, FLAG, 5)
        copied = list(first)
        second = walk(OUTER, INNER, FLAG, 5)
        first[0] = None
        first.append(FLAG)
        first.reverse()
        self.assertEqual(second, copied)
        self.told(copied, walk, OUTER, INNER, FLAG, 5)
        second.clear()
        self.told(copied, walk, OUTER, INNER, FLAG, 5)
        self.told(copied[:3], walk, OUTER, INNER, FLAG, 2)

    def test_flags_are_tuples_of_tuples(self):
        for flag in walk(OUTER, INNER, FLAG, 5) + [next_flag(OUTER, INNER, FLAG), flag_back(OUTER, INNER, FLAG)]:
            self.assertIs(type(flag), tuple)
            self.assertEqual([type(part) for part in flag], [tuple, tuple])
            self.assertTrue(all(is_triple(part) for part in flag))

    def test_what_lies_in_a_handed_list_may_be_changed(self):
        handed = [OUTER, INNER, FLAG]
        told = walk(*handed, 4)
        kept = list(told)
        handed[0], handed[2] = CIRCLE, None
        self.assertEqual(told, kept)
        self.told(kept, walk, OUTER, INNER, FLAG, 4)


if __name__ == "__main__":
    unittest.main()
