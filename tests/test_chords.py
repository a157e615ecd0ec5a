"""[18]: chords."""

import unittest
from fractions import Fraction

from roundsides.chords import chord_curve
from roundsides.counts import ring_count
from roundsides.curves import curve_touches, is_curve
from roundsides.pairs import is_pair, pair_cubic
from roundsides.points import crossed, joined, lies_on
from roundsides.rings import ring_curves, six_curves
from roundsides.spots import spot_times
from roundsides.walks import walk
from tests.oracles import COUNTS, LOOSE_CUBICS, counted_cubics, flagged, oracle_kept, pair_of_cubic, pair_with_flag
from tests.rest_oracles import through_gcd
from tests.support import CIRCLE, NO_CURVES, NO_NUMBERS, NO_PAIRS, Case

OUTER, INNER = (1, 1, -4, 0, 0, 0), (1, 1, -1, 0, 2, 0)
FIRST = ((0, 1), (1, 1))


def chords(flags, steps):
    """The lines from each corner to the one so many steps further on, where these are unlike."""
    corners = [flag[0] for flag in flags]
    return [joined(one, other) for one, other in zip(corners, corners[steps:]) if one != other]


class Chords(Case):
    def test_examples(self):
        # Twice the first spot of 1 + 7t/2 + 9tt/2 + 2ttt is at (49/16 - 9/2) / 2 = -23/32.
        self.told((9, 9, 60, 0, 64, 0), chord_curve, OUTER, INNER, 2)
        self.told(INNER, chord_curve, OUTER, INNER, 1)

    def test_of_one_step_it_is_the_inner_curve(self):
        for outer, inner, _ in flagged():
            self.told(inner, chord_curve, outer, inner, 1)

    def test_by_the_sums_of_spots(self):
        for outer, inner, _ in flagged()[:12] + [pair_of_cubic(cubic) for cubic in LOOSE_CUBICS]:
            for steps in (1, 2, 3, 4, 7):
                t = Fraction(*spot_times(pair_cubic(outer, inner), FIRST, steps)[0])
                six = [int((t * x + y) * t.denominator) for x, y in zip(outer, inner)]
                self.told(oracle_kept(six), chord_curve, outer, inner, steps)

    def test_all_lines_touch_it(self):
        tried = 0
        for outer, inner, flag in [pair_with_flag(9, 2), pair_with_flag(16, 9)] + flagged()[12::3]:
            count = ring_count(outer, inner)
            flags = walk(outer, inner, flag, 16)
            for steps in range(1, 13):
                if count is not None and 2 * steps % count == 0:
                    continue
                curve = chord_curve(outer, inner, steps)
                self.assertTrue(is_curve(curve))
                for line in chords(flags, steps):
                    self.assertTrue(curve_touches(curve, line))
                    tried += 1
        self.assertGreater(tried, 1000)

    def test_many_figures(self):
        outer, inner, flag = pair_with_flag(34, 99)
        flags = walk(outer, inner, flag, 6)
        for steps in (1, 2, 3, 5):
            curve = chord_curve(outer, inner, steps)
            for line in chords(flags, steps):
                self.assertTrue(curve_touches(curve, line))
            self.told(curve, chord_curve, outer, inner, steps)

    def test_corners_that_are_one(self):
        for count in COUNTS:
            for cubic in counted_cubics(count):
                outer, inner, flag = pair_of_cubic(cubic)
                for steps in range(count, 13, count):
                    self.assertEqual(chords(walk(outer, inner, flag, 20), steps), [])
                    self.refused("NoChord", chord_curve, outer, inner, steps)

    def test_lines_through_one_point(self):
        for count in (4, 6, 8, 10, 12):
            seen = 0
            for cubic in counted_cubics(count):
                outer, inner, flag = pair_of_cubic(cubic)
                for steps in range(count // 2, 13, count):
                    lines = sorted(set(chords(walk(outer, inner, flag, 24), steps)))
                    # Walks from a point of both curves go to and fro, so some have one such line alone.
                    if len(lines) > 1:
                        self.assertTrue(all(lies_on(crossed(*lines[:2]), line) for line in lines))
                        seen += 1
                    self.refused("NoChord", chord_curve, outer, inner, steps)
            self.assertTrue(seen > 0 or count == 4)

    def test_rings_whose_facing_corners_are_told(self):
        square = [(1, 1, 1), (1, -1, 1), (1, 1, -1), (1, -1, -1)]
        outer, inner = ring_curves(square, [(1, 7, 5)], [(3, 4, -6)])
        for steps in (2, 4, 6, 8, 10, 12):
            self.refused("NoChord", chord_curve, outer, inner, steps)
        for steps in (1, 3, 5, 7, 9, 11):
            self.told(inner, chord_curve, outer, inner, steps)
        outer, inner, sixth = six_curves([(1, 0, 0), (0, 1, 0), (0, 0, 1), (1, 1, 1), (2, 3, 7)])
        for steps in (3, 6, 9, 12):
            self.refused("NoChord", chord_curve, outer, inner, steps)
        curve = chord_curve(outer, inner, 2)
        for line in ((0, 1, 0), joined((0, 0, 1), (2, 3, 7)), joined((2, 3, 7), (1, 0, 0)), joined((1, 1, 1), sixth)):
            self.assertTrue(curve_touches(curve, line))

    def test_counts_of_chord_curves(self):
        for count in COUNTS:
            for cubic in counted_cubics(count)[:3]:
                outer, inner, _ = pair_of_cubic(cubic)
                for steps in range(1, 13):
                    if 2 * steps % count:
                        curve = chord_curve(outer, inner, steps)
                        self.assertTrue(is_pair(outer, curve))
                        self.assertEqual(ring_count(outer, curve), through_gcd(count, steps))

    def test_never_stays_never(self):
        for outer, inner in ((OUTER, INNER), pair_with_flag(9, 2)[:2]):
            for steps in range(1, 13):
                curve = chord_curve(outer, inner, steps)
                self.assertTrue(is_pair(outer, curve))
                self.assertIsNone(ring_count(outer, curve))

    def test_steps_back_are_like_steps_on(self):
        for count in (5, 7, 9, 10, 12):
            outer, inner, _ = pair_of_cubic(counted_cubics(count)[0])
            for steps in range(1, count):
                if 2 * steps != count:
                    self.told(chord_curve(outer, inner, steps), chord_curve, outer, inner, count - steps)


class Refused(Case):
    def test_no_curve(self):
        for thing in NO_CURVES:
            self.refused("NoCurve", chord_curve, thing, INNER, 2)
            self.refused("NoCurve", chord_curve, OUTER, thing, 2)
            self.refused("NoCurve", chord_curve, thing, thing, thing)

    def test_no_pair(self):
        for one, other in NO_PAIRS:
            self.refused("NoPair", chord_curve, one, other, 2)
            self.refused("NoPair", chord_curve, other, one, 0)

    def test_too_many(self):
        for bad in NO_NUMBERS + [0, -1, 13, 14, 24, -12]:
            self.refused("TooMany", chord_curve, OUTER, INNER, bad)
        for steps in (1, 2, 11, 12):
            self.assertTrue(is_curve(chord_curve(OUTER, INNER, steps)))

    def test_in_their_order(self):
        outer, inner, _ = pair_of_cubic(counted_cubics(3)[0])
        self.refused("NoChord", chord_curve, outer, inner, 3)
        for bad in (0, 13, None, True):
            self.refused("NoCurve", chord_curve, None, CIRCLE, bad)
            self.refused("NoCurve", chord_curve, CIRCLE, None, bad)
            self.refused("NoPair", chord_curve, CIRCLE, CIRCLE, bad)
            self.refused("TooMany", chord_curve, outer, inner, bad)


if __name__ == "__main__":
    unittest.main()
