"""[16] and [17]: counts and papers."""

import unittest

from roundsides.clocks import clocks_of, rest_order
from roundsides.counts import judge_paper, ring_count, ring_paper
from roundsides.pairs import is_pair, pair_cubic
from roundsides.rows import comes_back
from roundsides.walks import walk
from tests.oracles import COUNTS, LOOSE_CUBICS, TABLES, counted_cubics, curves, flagged, pair_of_cubic
from tests.rest_oracles import FEW_CLOCKS, all_primes, moved, oracle_clocks, oracle_never, oracle_order
from tests.support import CIRCLE, FORTY, NO_CURVES, NO_NUMBERS, NO_PAIRS, THIRTY, Case, anything, nested

OUTER, INNER = (1, 1, -4, 0, 0, 0), (1, 1, -1, 0, 2, 0)
# A circle of radius 4 about (2, 0, 1), and one of radius 3/2 about (0, 0, 1): 16 - 4 is twice 4 by 3/2.
THREE = ((1, 1, -12, 0, -4, 0), (4, 4, -9, 0, 0, 0))

TENS = ((10 ** 9 + 7, 1, 0), (0, 1, 10 ** 9 + 9), (1, 1, 1))

NO_PAPERS = anything() + [
    ("back",), ("never",), ("back", 3, 3), ("back", 3, 5), ("never", 5), ("never", 5, 7, 11), ["back", 3],
    ["never", 5, 7], ("back", True), ("back", None), ("back", "3"), ("back", (3,)), ("back", [3]), ("back", (3, 1)),
    ("never", 5, "7"), ("never", "5", 7), ("never", None, 7), ("never", 5, None), ("never", True, 7),
    ("never", False, 5), ("never", (5,), (7,)), ("Back", 3), ("BACK", 3), ("back ", 3), ("NEVER", 5, 7), ("", 3),
    ("never", [5], [7]), (3, "back"), (5, 7, "never"), ("back", ("back", 3)),
    (("back", 3),), (("never", 5, 7),), "back 3", "never 5 7", (None, 3), (None, 5, 7), (True, 3), ("back", nested(19)),
    (nested(19), 3), ("ever", 5, 7), ("back", -3), ("never", -7, -5), ("never", -5, 7), ("back", -THIRTY),
]


def made_pairs(count):
    """Curves whose walks come back behind so many sides, of small numbers, and moved by tables."""
    made = [pair_of_cubic(cubic)[:2] for cubic in counted_cubics(count)]
    return made + [(moved(outer, rows), moved(inner, rows)) for outer, inner in made for rows in TABLES[1:3] + [TENS]]


def loose_pairs():
    """Curves whose walks never come back, of small numbers and of forty figures."""
    made = [(OUTER, INNER)] + [two[:2] for two in flagged()[:12]] + [pair_of_cubic(cubic)[:2] for cubic in LOOSE_CUBICS]
    row = curves()
    return made + [two for two in zip(row, row[1:]) if is_pair(*two)]


class RingCount(Case):
    def test_examples(self):
        self.told(3, ring_count, *THREE)
        self.told(None, ring_count, OUTER, INNER)
        # Two lines that touch xx + 4yy = 4 and cross at right angles do so where xx + yy is 5.
        self.told(4, ring_count, (1, 1, -5, 0, 0, 0), (1, 4, -4, 0, 0, 0))

    def test_made_curves(self):
        for count in COUNTS:
            pairs = made_pairs(count)
            self.assertGreater(len(pairs), 15)
            for outer, inner in pairs:
                self.told(count, ring_count, outer, inner)

    def test_many_figures(self):
        for count in COUNTS:
            outer, inner, _ = pair_of_cubic(counted_cubics(count)[0])
            one, other = moved(outer, TABLES[3]), moved(inner, TABLES[3])
            self.assertGreater(max(abs(number) for number in one + other), 10 ** 40)
            self.told(count, ring_count, one, other)
            other = other[:5] + (other[5] + 1,)
            self.told(None, ring_count, one, other)

    def test_none_where_no_walk_comes_back(self):
        for outer, inner in loose_pairs():
            count = ring_count(outer, inner)
            cubic = pair_cubic(outer, inner)
            backs = [sides for sides in range(3, 17) if comes_back(cubic, sides)]
            self.assertEqual(count, backs[0] if backs else None)
            self.told(count, ring_count, outer, inner)

    def test_as_walks_tell(self):
        for outer, inner, flag in flagged():
            flags = walk(outer, inner, flag, 24)
            backs = [sides for sides in range(1, 25) if flags[sides] == flag]
            self.told(backs[0] if backs else None, ring_count, outer, inner)

    def test_without_any_clock(self):
        self.told(None, ring_count, *FEW_CLOCKS[0][:2])
        self.told(None, ring_count, *FEW_CLOCKS[1][:2])
        # A table whose worth all small primes divide leaves no clock, but the count.
        for count in COUNTS:
            outer, inner, _ = pair_of_cubic(counted_cubics(count)[0])
            rows = ((all_primes(), 0, 0), (0, 1, 0), (0, 0, 1))
            one, other = moved(outer, rows), moved(inner, rows)
            self.assertEqual(clocks_of(one, other), [])
            self.told(count, ring_count, one, other)
            self.told(("back", count), ring_paper, one, other)
            self.told(True, judge_paper, one, other, ("back", count))

    def test_orders_of_clocks_do_not_make_a_count(self):
        # All clocks there are have the order of a count, but walks never come back.
        for outer, inner, clocks in FEW_CLOCKS[2:]:
            self.assertIn(rest_order(outer, inner, clocks[0]), COUNTS)
            self.told(None, ring_count, outer, inner)

    def test_refused(self):
        for thing in NO_CURVES:
            self.refused("NoCurve", ring_count, thing, INNER)
            self.refused("NoCurve", ring_count, OUTER, thing)
            self.refused("NoCurve", ring_count, thing, thing)
        for one, other in NO_PAIRS:
            self.refused("NoPair", ring_count, one, other)
            self.refused("NoPair", ring_count, other, one)


class RingPaper(Case):
    def test_back(self):
        for count in COUNTS:
            for outer, inner in made_pairs(count):
                self.told(("back", count), ring_paper, outer, inner)

    def test_never(self):
        seen = []
        for outer, inner in loose_pairs():
            if ring_count(outer, inner) is not None:
                continue
            paper = oracle_never(outer, inner)
            if paper is None:
                self.refused("NoClock", ring_paper, outer, inner)
            else:
                self.told(paper, ring_paper, outer, inner)
                clocks = oracle_clocks(outer, inner)
                seen.append(paper[1:] == tuple(clocks[:2]))
        self.assertIn(True, seen)
        self.assertIn(False, seen)
        self.assertGreater(len(seen), 40)

    def test_the_least_other_of_all(self):
        outer, inner = loose_pairs()[0]
        orders = [(clock, oracle_order(outer, inner, clock)) for clock in oracle_clocks(outer, inner)]
        papers = [("never", one, other) for one, first in orders for other, second in orders if one < other and first != second]
        self.told(min(papers, key=lambda paper: (paper[2], paper[1])), ring_paper, outer, inner)

    def test_no_two_clocks_will_do(self):
        # No clock, one alone, two of like orders.
        for outer, inner, clocks in FEW_CLOCKS:
            self.assertEqual(len({rest_order(outer, inner, clock) for clock in clocks}), min(len(clocks), 1))
            self.refused("NoClock", ring_paper, outer, inner)

    def test_refused(self):
        for thing in NO_CURVES:
            self.refused("NoCurve", ring_paper, thing, INNER)
            self.refused("NoCurve", ring_paper, OUTER, thing)
            self.refused("NoCurve", ring_paper, thing, thing)
        for one, other in NO_PAIRS:
            self.refused("NoPair", ring_paper, one, other)
            self.refused("NoPair", ring_paper, other, one)


class JudgePaper(Case):
    def test_what_is_told_is_let_by(self):
        for outer, inner in [pair for count in COUNTS for pair in made_pairs(count)[:3]] + loose_pairs():
            if ring_count(outer, inner) is not None or oracle_never(outer, inner) is not None:
                self.told(True, judge_paper, outer, inner, ring_paper(outer, inner))

    def test_back(self):
        for count in COUNTS:
            for outer, inner in made_pairs(count)[:3]:
                for sides in range(0, 41):
                    self.told(sides == count, judge_paper, outer, inner, ("back", sides))
        for outer, inner in loose_pairs()[:6]:
            for sides in range(0, 41):
                self.told(False, judge_paper, outer, inner, ("back", sides))

    def test_never(self):
        for outer, inner in loose_pairs()[:4] + [two[:2] for two in FEW_CLOCKS]:
            orders = {clock: oracle_order(outer, inner, clock) for clock in oracle_clocks(outer, inner)}
            for clock in range(0, 40):
                for other in range(0, 40):
                    whether = clock < other and clock in orders and other in orders and orders[clock] != orders[other]
                    self.assertIs(judge_paper(outer, inner, ("never", clock, other)), whether)

    def test_never_where_walks_come_back(self):
        for count in COUNTS:
            outer, inner = made_pairs(count)[0]
            for clock in clocks_of(outer, inner):
                for other in clocks_of(outer, inner):
                    self.told(False, judge_paper, outer, inner, ("never", clock, other))

    def test_the_other_way_round(self):
        word, clock, other = ring_paper(OUTER, INNER)
        self.told(True, judge_paper, OUTER, INNER, (word, clock, other))
        self.told(False, judge_paper, OUTER, INNER, (word, other, clock))
        self.told(False, judge_paper, OUTER, INNER, (word, clock, clock))
        self.told(False, judge_paper, OUTER, INNER, (word, other, other))

    def test_of_anything(self):
        for thing in NO_PAPERS:
            self.told(False, judge_paper, OUTER, INNER, thing)
            self.told(False, judge_paper, THREE[0], THREE[1], thing)

    def test_great_numbers_at_once(self):
        great = [25, 27, 30, 36, 37, 41, 43, 60, 97, THIRTY, FORTY, 2 ** 89 - 1, 3 * 10 ** 29, 10 ** 999, -(10 ** 999)]
        for number in great + [thing for thing in NO_NUMBERS if thing is not None]:
            for outer, inner in ((OUTER, INNER), THREE, FEW_CLOCKS[0][:2]):
                self.told(False, judge_paper, outer, inner, ("back", number))
                self.told(False, judge_paper, outer, inner, ("never", 5, number))
                self.told(False, judge_paper, outer, inner, ("never", number, 7))
                self.told(False, judge_paper, outer, inner, ("never", number, number))

    def test_refused(self):
        for thing in NO_CURVES:
            for paper in (("back", 3), ("never", 5, 7), None):
                self.refused("NoCurve", judge_paper, thing, INNER, paper)
                self.refused("NoCurve", judge_paper, OUTER, thing, paper)
        for one, other in NO_PAIRS:
            for paper in (("back", 3), ("never", 5, 7), None, ("back", FORTY)):
                self.refused("NoPair", judge_paper, one, other, paper)
                self.refused("NoPair", judge_paper, other, one, paper)
        self.refused("NoPair", judge_paper, CIRCLE, CIRCLE, None)
        self.refused("NoCurve", judge_paper, None, CIRCLE, None)


if __name__ == "__main__":
    unittest.main()
