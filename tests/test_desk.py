"""[24]: the desk."""

import unittest

from roundsides import errors
from roundsides.chords import chord_curve
from roundsides.circles import circle_curve
from roundsides.clocks import clocks_of, rest_order
from roundsides.counts import judge_paper, ring_count, ring_paper
from roundsides.desk import Desk
from roundsides.errors import RoundError
from roundsides.firsts import first_flags
from roundsides.pairs import is_pair, pair_cubic
from roundsides.rings import count_cubic, cubic_curves, ring_curves
from roundsides.texts import shown_cubic, shown_curve, shown_flag, shown_paper
from roundsides.walks import flag_back, walk
from tests.oracles import COUNTS, flagged
from tests.rest_oracles import FEW_CLOCKS
from tests.support import CIRCLE, FLAT, FORTY, NO_PAIRS, UNKEPT, Case, anything

OUTER, INNER = (1, 1, -4, 0, 0, 0), (1, 1, -1, 0, 2, 0)
SIXTY = "9" * 60
MORE = "1" + "0" * 60

# Curves with a flag of small numbers: a circle, and one that the line x = 3z touches.
TWO = ("outer 1 1 -25 0 0 0", "inner 4 1 -36 0 0 0")
FLAG = "flag (3:4:1) (1:0:-3)"

BARE = ("count", "paper", "cubic", "clocks", "next", "back", "here")
FOLLOWED = ("outer", "inner", "circle", "circle outer", "circle inner", "judge", "order", "chord", "flag", "first")

# Lines of the right forms, whatever comes of them.
GOOD = BARE + (
    "outer 1 1 -25 0 0 0", "inner 4 1 -36 0 0 0", "circle outer 0 0 25", "circle inner 1/2 -3 7/4", "judge back 3",
    "judge never 5 7", "order 5", "order -5", "chord 2", "chord 13", "flag (3:4:1) (1:0:-3)", "first 3", "first 0",
)

BENT_NUMBERS = ("", "-", "-0", "05", "+5", "5.0", "1e1", "five", "5/1", "5\n", "(5)", "5,", "--5", MORE, "-" + MORE, "0x5")

BENT_FRACTIONS = BENT_NUMBERS + ("10/2", "2/4", "1/0", "0/3", "1/-2", "1/", "/2", "1/2/3", "1/02", MORE + "/7", "1/" + MORE)


def replaced(text, at, part):
    parts = text.split(" ")
    parts[at] = part
    return " ".join(parts)


def bent_lines():
    """Lines that have none of the forms."""
    made = ["", " ", "\n", "desk", "help", "Count", "COUNT", "counts", "count count", "count 3", "here 1", "next 2", "back 3",
            "paper back 3", "cubic 1", "clocks 5", "none", "~" * 1000, "count\nhere", "count,here", "tell count"]
    for line in GOOD:
        made += [" " + line, line + " ", "  " + line, line + "  ", line + "\n", "\n" + line, line + "\t", line + " 1 1", line + "!",
                 line.upper(), "x" + line, line + " " + line]
        if " " in line:
            made += [line.replace(" ", "  ", 1), line.replace(" ", "\t", 1), line.replace(" ", "\n"), line.replace(" ", "")]
    made += list(FOLLOWED) + [word + " " for word in FOLLOWED]
    for bent in BENT_NUMBERS:
        made += [f"order {bent}", f"chord {bent}", f"first {bent}", f"judge back {bent}", f"judge never 5 {bent}",
                 f"judge never {bent} 7", f"flag (3:4:{bent}) (1:0:-3)", f"flag (3:4:1) ({bent}:0:-3)"]
        for word in ("outer", "inner"):
            made += [replaced(f"{word} 1 1 -25 0 0 0", at, bent) for at in range(1, 7)]
    for bent in BENT_FRACTIONS:
        for word in ("outer", "inner"):
            made += [replaced(f"circle {word} 1 1 25", at, bent) for at in range(2, 5)]
    for six in FLAT + UNKEPT:
        made += [word + " " + " ".join(map(str, six)) for word in ("outer", "inner")]
    made += [
        "circle 0 0 25", "circle both 0 0 25", "circle outer 0 0", "circle outer 0 0 25 1", "circle Outer 0 0 25",
        "circle outer inner 0 0 25", "outer circle 0 0 25", "outer 1 1 -25 0 0", "outer 1 1 -25 0 0 0 0", "outer",
        "outer (3:4:1)", "inner 1/2 1 -1 0 0 0", "judge", "judge back", "judge never", "judge never 5", "judge back 3 5",
        "judge never 5 7 11", "judge back -1", "judge never -5 7", "judge Back 3", "judge count", "judge 3", "judge yes",
        "order 5 7", "order five", "chord 2 3", "chord 1/2", "first 1 2", "first 1/2", "order (5)", "flag", "flag none",
        "flag (3:4:1)", "flag (3:4:1)(1:0:-3)", "flag (3:4:1) (1:0:-3) (1:0:-3)", "flag (6:8:2) (1:0:-3)",
        "flag (3:4:1) (2:0:-6)", "flag (-3:-4:-1) (1:0:-3)", "flag (0:0:0) (1:0:-3)", "flag (3:4:1) (0:0:0)",
        "flag (3:4) (1:0:-3)", "flag 3 4 1 1 0 -3", "flag ((3:4:1) (1:0:-3))", "flag (3:4:1), (1:0:-3)",
        f"flag (3:4:{MORE}) (1:0:-3)", f"outer 1 1 -{MORE} 0 0 0", f"judge back {MORE}", f"order -{MORE}",
    ]
    return [line for line in made if line not in GOOD]


class Lines(Case):
    def answered(self, desk, *lines):
        """Each line with its answer behind ' -> ', in turn; a refusal is told by its class."""
        for line in lines:
            asked, wanted = line.split(" -> ")
            try:
                told = desk.tell(asked)
            except RoundError as refusal:
                told = type(refusal).__name__
            self.assertEqual(told, wanted, line)
            self.assertIs(type(told), str)

    def refuses(self, desk, name, line):
        self.refused(name, desk.tell, line)

    def beginning(self, outer, inner):
        desk = Desk()
        self.answered(desk, f"outer {shown_curve(outer)} -> outer", f"inner {shown_curve(inner)} -> inner")
        return desk


class Beginning(Lines):
    def test_the_curves_it_begins_with(self):
        self.answered(
            Desk(), "here -> none", "count -> never", "cubic -> 7/2 9/2 2", "paper -> never 3 5",
            "clocks -> 3 5 11 13 17 19 23 29 31", "chord 1 -> 1 1 -1 0 2 0", "chord 2 -> 9 9 60 0 64 0", "next -> NoFlag",
            "back -> NoFlag", "judge never 3 5 -> yes", "judge never 5 3 -> no", "judge back 3 -> no", "order 7 -> NoClock",
            f"order 5 -> {rest_order(OUTER, INNER, 5)}", "here -> none",
        )

    def test_each_curve_by_itself(self):
        desk = Desk()
        self.answered(desk, "inner 4 1 -36 0 0 0 -> inner", "cubic -> " + shown_cubic(pair_cubic(OUTER, (4, 1, -36, 0, 0, 0))))
        desk = Desk()
        self.answered(desk, "outer 1 1 -25 0 0 0 -> outer", "cubic -> " + shown_cubic(pair_cubic((1, 1, -25, 0, 0, 0), INNER)))

    def test_it_takes_no_arguments_and_tell_stands_in_the_class(self):
        self.assertIn("tell", vars(Desk))
        with self.assertRaises(TypeError):
            Desk(1)


class Asked(Lines):
    def test_as_the_functions_tell(self):
        for outer, inner, flag in flagged()[::2]:
            desk = self.beginning(outer, inner)
            count = ring_count(outer, inner)
            clocks = clocks_of(outer, inner)
            self.answered(
                desk, f"count -> {'never' if count is None else count}", f"cubic -> {shown_cubic(pair_cubic(outer, inner))}",
                f"clocks -> {' '.join(map(str, clocks)) or 'none'}", f"chord 1 -> {shown_curve(inner)}",
                f"paper -> {self.paper(outer, inner)}", f"judge back {count or 3} -> {'no' if count is None else 'yes'}",
            )
            for clock in clocks:
                self.answered(desk, f"order {clock} -> {rest_order(outer, inner, clock)}")
            for steps in (2, 3):
                self.answered(desk, f"chord {steps} -> {self.chord(outer, inner, steps)}")

    @staticmethod
    def paper(outer, inner):
        try:
            return shown_paper(ring_paper(outer, inner))
        except errors.NoClock:
            return "NoClock"

    @staticmethod
    def chord(outer, inner, steps):
        try:
            return shown_curve(chord_curve(outer, inner, steps))
        except errors.NoChord:
            return "NoChord"

    def test_counts(self):
        for count in COUNTS:
            outer, inner = cubic_curves(count_cubic(count, (3, 1)))
            desk = self.beginning(outer, inner)
            self.answered(desk, f"count -> {count}", f"paper -> back {count}", f"judge back {count} -> yes",
                          f"judge back {2 * count} -> no", f"judge back {count - 1} -> no", "judge never 3 5 -> no",
                          f"judge back {SIXTY} -> no", f"chord {count if count <= 12 else 12} -> NoChord")

    def test_judged_as_the_function_tells(self):
        desk = Desk()
        for clock in range(0, 12):
            for other in range(0, 14):
                wanted = "yes" if judge_paper(OUTER, INNER, ("never", clock, other)) else "no"
                self.answered(desk, f"judge never {clock} {other} -> {wanted}")
        self.answered(desk, "judge back 0 -> no", "judge back 25 -> no", f"judge never 5 {SIXTY} -> no")

    def test_clocks_none_and_alone(self):
        for outer, inner, clocks in FEW_CLOCKS:
            desk = self.beginning(outer, inner)
            self.answered(desk, f"clocks -> {' '.join(map(str, clocks)) or 'none'}", "paper -> NoClock", "count -> never")

    def test_numbers_that_the_functions_refuse(self):
        desk = Desk()
        for number in ("0", "1", "2", "4", "6", "7", "9", "37", "-3", "-5", SIXTY, "-" + SIXTY):
            self.answered(desk, f"order {number} -> NoClock")
        for number in ("0", "13", "-1", SIXTY, "-" + SIXTY):
            self.answered(desk, f"chord {number} -> TooMany")
        for number in ("0", "5", "-1", SIXTY, "-" + SIXTY):
            self.answered(desk, f"first {number} -> TooMany")
        outer, inner = ring_curves([(1, 0, 0), (0, 1, 0), (0, 0, 1)], [(1, 2, 3), (1, 1, -1)], [(1, 1, 1), (1, 2, -1)])
        desk = self.beginning(outer, inner)
        self.answered(desk, "chord 3 -> NoChord", "chord 2 -> " + shown_curve(inner), "chord 6 -> NoChord")


class Curves(Lines):
    def test_circles(self):
        for x, y, square, handed in (
            ("0", "0", "4", ((0, 1), (0, 1), (4, 1))), ("-1", "0", "2", ((-1, 1), (0, 1), (2, 1))),
            ("1/2", "-3/7", "5/9", ((1, 2), (-3, 7), (5, 9))), (SIXTY, "-" + SIXTY, f"{SIXTY}/10",
                                                             ((10 ** 60 - 1, 1), (1 - 10 ** 60, 1), (10 ** 60 - 1, 10))),
        ):
            curve = circle_curve(*handed)
            desk = Desk()
            self.answered(desk, "outer 2 3 5 7 11 13 -> outer", f"circle inner {x} {y} {square} -> inner")
            self.answered(desk, f"chord 1 -> {shown_curve(curve)}")
            desk = Desk()
            self.answered(desk, "inner 2 3 5 7 11 13 -> inner", f"circle outer {x} {y} {square} -> outer")
            self.answered(desk, f"cubic -> {shown_cubic(pair_cubic(curve, (2, 3, 5, 7, 11, 13)))}")

    def test_the_old_rules_at_the_desk(self):
        desk = Desk()
        self.answered(
            desk, "circle outer 0 0 4 -> outer", "circle inner 1 0 9/16 -> inner", "count -> 3", "circle inner 1 0 9/10 -> inner",
            "count -> 4", "paper -> back 4", "circle inner 0 2 7/3 -> inner", "count -> 4", "circle inner 1 0 2 -> inner",
            "count -> never",
        )

    def test_no_circles(self):
        desk = Desk()
        for square in ("0", "-1", "-1/2", "-" + SIXTY):
            for which in ("outer", "inner"):
                self.answered(desk, f"circle {which} 1/2 3 {square} -> NoCircle", "cubic -> 7/2 9/2 2")

    def test_curves_that_are_no_pair_are_taken(self):
        for one, other in NO_PAIRS:
            desk = self.beginning(one, other)
            for line in ("count", "paper", "cubic", "clocks", "judge back 3", "judge never 5 7", "order 5", "order 4", "chord 2",
                         "chord 13", "first 2", "first 0", "first 5", "flag (1:0:0) (0:1:0)", f"judge back {SIXTY}"):
                self.refuses(desk, "NoPair", line)
            self.answered(desk, "here -> none", "next -> NoFlag", "back -> NoFlag")
            self.answered(desk, "outer 2 3 5 7 11 13 -> outer")
            if is_pair((2, 3, 5, 7, 11, 13), other):
                self.answered(desk, f"chord 1 -> {shown_curve(other)}")

    def test_both_changed_in_turn(self):
        desk = Desk()
        self.answered(
            desk, "outer 1 1 -1 0 0 0 -> outer", "inner 1 1 -1 0 0 0 -> inner", "count -> NoPair", "inner 4 1 -2 0 0 0 -> inner",
            "chord 1 -> 4 1 -2 0 0 0", "outer 4 1 -2 0 0 0 -> outer", "chord 1 -> NoPair", "inner 1 1 -1 0 0 0 -> inner",
            "chord 1 -> 1 1 -1 0 0 0",
        )

    def test_many_figures(self):
        desk = Desk()
        outer, inner = (FORTY, 1, -1, 0, 0, 0), (1, FORTY + 2, 3, 1, 1, 1)
        self.answered(desk, f"outer {shown_curve(outer)} -> outer", f"inner {shown_curve(inner)} -> inner", "count -> never",
                      f"cubic -> {shown_cubic(pair_cubic(outer, inner))}", f"paper -> {Asked.paper(outer, inner)}")
        sixty = (1, 1, -int(SIXTY), 0, 0, 0)
        self.answered(desk, f"inner {shown_curve(sixty)} -> inner", f"chord 1 -> {shown_curve(sixty)}")


class Flags(Lines):
    def test_to_and_fro(self):
        desk = Desk()
        self.answered(
            desk, *[f"{line} -> {line.split(' ')[0]}" for line in TWO], "here -> none", f"{FLAG} -> flag",
            "here -> (3:4:1) (1:0:-3)", "next -> (3:-4:1) (5:-6:-39)", "here -> (3:-4:1) (5:-6:-39)", "back -> (3:4:1) (1:0:-3)",
            "here -> (3:4:1) (1:0:-3)", "back -> " + shown_flag(flag_back((1, 1, -25, 0, 0, 0), (4, 1, -36, 0, 0, 0),
                                                                         ((3, 4, 1), (1, 0, -3)))),
            "next -> (3:4:1) (1:0:-3)",
        )

    def test_along_a_walk(self):
        for outer, inner, flag in flagged()[::2]:
            desk = self.beginning(outer, inner)
            if max(len(str(abs(number))) for part in flag for number in part) > 60:
                continue
            self.answered(desk, f"flag {shown_flag(flag)} -> flag")
            flags = walk(outer, inner, flag, 5)
            for after in flags[1:]:
                self.answered(desk, f"next -> {shown_flag(after)}", f"here -> {shown_flag(after)}")
            for before in flags[-2::-1]:
                self.answered(desk, f"back -> {shown_flag(before)}", f"here -> {shown_flag(before)}")

    def test_none_taken(self):
        desk = Desk()
        for line in ("next", "back"):
            self.refuses(desk, "NoFlag", line)
        desk = self.beginning(*NO_PAIRS[0])
        for line in ("next", "back"):
            self.refuses(desk, "NoFlag", line)
        self.answered(desk, "here -> none")

    def test_flags_that_are_none(self):
        desk = Desk()
        self.answered(desk, *[f"{line} -> {line.split(' ')[0]}" for line in TWO], f"{FLAG} -> flag")
        for flag in ("(3:5:1) (1:0:-3)", "(4:3:1) (1:0:-3)", "(4:3:1) (1:0:-4)", "(1:0:-3) (3:4:1)", f"(3:4:{SIXTY}) (1:0:-3)"):
            self.answered(desk, f"flag {flag} -> NoFlag", "here -> (3:4:1) (1:0:-3)")
        self.answered(desk, "flag (3:-4:1) (1:0:-3) -> flag", "here -> (3:-4:1) (1:0:-3)")

    def test_no_pair_ahead_of_no_flag(self):
        desk = self.beginning(CIRCLE, CIRCLE)
        for flag in ("(1:0:1) (1:0:-1)", "(3:5:1) (1:0:-3)", "(1:0:0) (1:0:0)"):
            self.refuses(desk, "NoPair", f"flag {flag}")
        self.refuses(desk, "NoLine", "flag (2:0:0) (1:0:0)")

    def test_forgotten_behind_a_new_curve(self):
        for line in ("outer 1 1 -25 0 0 0", "inner 4 1 -36 0 0 0", "outer 1 1 -4 0 0 0", "inner 1 1 -1 0 0 0", "circle outer 0 0 25",
                     "circle inner 1 2 3/4", "outer 4 1 -36 0 0 0"):
            desk = Desk()
            which = "outer" if "outer" in line else "inner"
            self.answered(desk, *[f"{two} -> {two.split(' ')[0]}" for two in TWO], f"{FLAG} -> flag", f"{line} -> {which}",
                          "here -> none", "next -> NoFlag", "back -> NoFlag", "here -> none")

    def test_first(self):
        desk = Desk()
        self.answered(
            desk, "first 4 -> none", "here -> none", *[f"{line} -> {line.split(' ')[0]}" for line in TWO], "first 1 -> none",
            "here -> none", "first 3 -> (3:-4:-1) (1:0:3)", "here -> (3:-4:-1) (1:0:3)", f"{FLAG} -> flag", "first 2 -> none",
            "here -> (3:4:1) (1:0:-3)", "next -> (3:-4:1) (5:-6:-39)", "first 1 -> none", "here -> (3:-4:1) (5:-6:-39)",
            "first 5 -> TooMany", "first 0 -> TooMany", "here -> (3:-4:1) (5:-6:-39)", "first 4 -> (3:-4:-1) (1:0:3)",
            "here -> (3:-4:-1) (1:0:3)",
        )

    def test_first_as_the_function_tells(self):
        found = 0
        for outer, inner, _ in flagged():
            desk = self.beginning(outer, inner)
            here = "none"
            for most in (1, 2, 3, 4):
                flags = first_flags(outer, inner, most)
                if flags:
                    here = shown_flag(flags[0])
                    found += 1
                self.answered(desk, f"first {most} -> {here if flags else 'none'}", f"here -> {here}")
        self.assertGreater(found, 20)


class Refused(Lines):
    def test_lines_of_no_form(self):
        desk = Desk()
        self.answered(desk, *[f"{line} -> {line.split(' ')[0]}" for line in TWO], f"{FLAG} -> flag")
        cubic = desk.tell("cubic")
        for line in bent_lines():
            self.refuses(desk, "NoLine", line)
        self.answered(desk, "here -> (3:4:1) (1:0:-3)", f"cubic -> {cubic}", "next -> (3:-4:1) (5:-6:-39)")

    def test_no_form_is_told_ahead_of_all_else(self):
        # Without a flag, and with curves that are no pair.
        for desk in (Desk(), self.beginning(CIRCLE, CIRCLE)):
            for line in bent_lines():
                self.refuses(desk, "NoLine", line)

    def test_what_is_no_text(self):
        desk = Desk()
        for thing in anything():
            if not isinstance(thing, str):
                self.refuses(desk, "NoLine", thing)

    def test_what_is_refused_changes_nothing(self):
        desk = Desk()
        self.answered(desk, *[f"{line} -> {line.split(' ')[0]}" for line in TWO], f"{FLAG} -> flag")
        before = [desk.tell(line) for line in ("here", "cubic", "chord 1", "clocks", "paper")]
        for line, name in (
            ("outer 2 2 -50 0 0 0", "NoLine"), ("inner 1 1 0 0 0 0", "NoLine"), ("circle outer 0 0 0", "NoCircle"),
            ("circle inner 0 0 -4", "NoCircle"), ("circle inner 0 0 2/2", "NoLine"), ("flag (3:5:1) (1:0:-3)", "NoFlag"),
            ("flag (6:8:2) (1:0:-3)", "NoLine"), ("first 0", "TooMany"), ("first 5", "TooMany"), ("order 4", "NoClock"),
            ("chord 0", "TooMany"), ("judge back -1", "NoLine"), ("next ", "NoLine"), ("back 1", "NoLine"), ("", "NoLine"),
        ):
            self.refuses(desk, name, line)
            self.assertEqual([desk.tell(line) for line in ("here", "cubic", "chord 1", "clocks", "paper")], before)


class Beside(Lines):
    def test_two_desks(self):
        one, other = Desk(), Desk()
        self.answered(one, *[f"{line} -> {line.split(' ')[0]}" for line in TWO], f"{FLAG} -> flag")
        self.answered(other, "here -> none", "cubic -> 7/2 9/2 2", "chord 1 -> 1 1 -1 0 2 0")
        self.answered(other, *[f"{line} -> {line.split(' ')[0]}" for line in TWO], "here -> none", f"{FLAG} -> flag")
        self.answered(one, "next -> (3:-4:1) (5:-6:-39)")
        self.answered(other, "here -> (3:4:1) (1:0:-3)", "circle inner 0 0 1 -> inner", "count -> NoPair")
        self.answered(one, "here -> (3:-4:1) (5:-6:-39)", "chord 1 -> 4 1 -36 0 0 0")
        self.answered(Desk(), "here -> none", "cubic -> 7/2 9/2 2")

    def test_the_same_is_told_whenever_it_is_asked(self):
        desk = Desk()
        for line in ("count", "paper", "cubic", "clocks", "order 5", "chord 3", "judge never 3 5", "here"):
            first = desk.tell(line)
            self.assertEqual([desk.tell(line) for _ in range(3)], [first] * 3)


if __name__ == "__main__":
    unittest.main()
