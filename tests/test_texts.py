"""[23]: texts told and read."""

import unittest

from roundsides.counts import ring_paper
from roundsides.pairs import pair_cubic
from roundsides.texts import (
    read_cubic, read_curve, read_flag, read_paper, read_triple, shown_cubic, shown_curve, shown_flag, shown_paper,
    shown_triple,
)
from roundsides.walks import walk
from tests.oracles import all_cubics, curves, flagged, oracle_kept
from tests.support import (
    CIRCLE, FLAT, FLAT_CUBICS, FORTY, NO_CUBICS, NO_CURVES, NO_TRIPLES, THIRTY, UNKEPT, Case, anything, nested,
    number_row,
)

SIXTY = 10 ** 60 - 1
MORE = 10 ** 60

TRIPLES = [
    ((1, 0, 0), "(1:0:0)"), ((0, 1, 0), "(0:1:0)"), ((0, 0, 1), "(0:0:1)"), ((1, -2, 3), "(1:-2:3)"),
    ((3, -4, 1), "(3:-4:1)"), ((10, 7, -100), "(10:7:-100)"), ((THIRTY, 1, -THIRTY), f"({THIRTY}:1:-{THIRTY})"),
    ((SIXTY, -SIXTY, 1), f"({SIXTY}:-{SIXTY}:1)"),
]

FLAGS = [
    (((3, 4, 1), (1, 0, -3)), "(3:4:1) (1:0:-3)"), (((0, 0, 1), (0, 1, 0)), "(0:0:1) (0:1:0)"),
    (((1, 2, 3), (1, 2, 3)), "(1:2:3) (1:2:3)"), (((THIRTY, 1, 0), (0, 1, -SIXTY)), f"({THIRTY}:1:0) (0:1:-{SIXTY})"),
]

CURVES = [
    (CIRCLE, "1 1 -1 0 0 0"), ((1, 1, -4, 0, 0, 0), "1 1 -4 0 0 0"), ((0, 1, 0, 0, 2, 0), "0 1 0 0 2 0"),
    ((2, 3, 5, 7, 11, 13), "2 3 5 7 11 13"), ((1, -2, 3, -4, 5, -6), "1 -2 3 -4 5 -6"),
    ((FORTY, 1, -1, 0, 0, 0), f"{FORTY} 1 -1 0 0 0"), ((1, 1, -SIXTY, 0, 0, 0), f"1 1 -{SIXTY} 0 0 0"),
]

CUBICS = [
    (((7, 2), (9, 2), (2, 1)), "7/2 9/2 2"), (((0, 1), (0, 1), (1, 1)), "0 0 1"),
    (((-1, 2), (-1, 3), (-1, 5)), "-1/2 -1/3 -1/5"), (((1, 1), (10, 100 + 1), (-20, 3)), "1 10/101 -20/3"),
    (((0, 1), (0, 1), (SIXTY, 10)), f"0 0 {SIXTY}/10"), (((0, 1), (0, 1), (-2, SIXTY)), f"0 0 -2/{SIXTY}"),
    (((0, 1), (0, 1), (SIXTY - 1, SIXTY)), f"0 0 {SIXTY - 1}/{SIXTY}"),
]

PAPERS = [
    (("back", 3), "back 3"), (("back", 12), "back 12"), (("back", 0), "back 0"), (("never", 3, 5), "never 3 5"),
    (("never", 0, 0), "never 0 0"), (("never", 31, 7), "never 31 7"), (("back", SIXTY), f"back {SIXTY}"),
    (("never", SIXTY, THIRTY), f"never {SIXTY} {THIRTY}"),
]

KINDS = [
    (shown_triple, read_triple, TRIPLES), (shown_flag, read_flag, FLAGS), (shown_curve, read_curve, CURVES),
    (shown_cubic, read_cubic, CUBICS), (shown_paper, read_paper, PAPERS),
]

NO_FLAGS = anything() + [
    ((1, 0, 0),), ((1, 0, 0),) * 3, [(1, 0, 0), (0, 1, 0)], ([1, 0, 0], (0, 1, 0)), ((1, 0, 0), [0, 1, 0]),
    ((1, 0, 0), None), (None, (1, 0, 0)), ((2, 0, 0), (0, 1, 0)), ((1, 0, 0), (0, -1, 0)), ((0, 0, 0), (0, 1, 0)),
    ((1, 0, 0), (0, 1)), ((1, 0, False), (0, 1, 0)), (1, 0, 0), "(1:0:0) (0:1:0)", ("(1:0:0)", "(0:1:0)"),
]

NO_PAPERS = anything() + [
    ("back",), ("never",), ("back", 3, 5), ("never", 5), ("never", 5, 7, 11), ["back", 3], ["never", 5, 7],
    ("back", -1), ("never", -3, 5), ("never", 3, -5), ("back", True), ("back", None), ("back", "3"), ("back", (3, 1)),
    ("never", True, 5), ("never", 3, False), ("never", 3, None), ("Back", 3), ("Never", 3, 5), ("", 3), (3, "back"),
    "back 3", "never 3 5", ("back 3",), ("never 3", 5), (None, 3), ("back", nested(19)), ("back", -FORTY),
]

# What is no text of a whole number, though near to one.
BENT_WHOLES = [
    "", "-", "-0", "00", "01", "-01", "+1", "--1", "1-", "1.0", "1e3", "1_0", "0x1", "a", "1a", " 1", "1 ", "1\n", "\n1",
    "\t1", "1/1", "1,0", "(1)", "(1:0:0)", "one", "0000", "- 1", "-+1", "1\n2", str(MORE), f"-{MORE}", "1" * 900,
    "9" * 61, "0" * 60, "0" * 59 + "1", "-" + "0" * 60, "~", "None", "True", "\"1\"",
]

BENT_FRACTIONS = [text for text in BENT_WHOLES if text != "1/1"] + [
    "1/1", "5/1", "0/1", "2/2", "2/4", "-2/4", "6/3", "1/0", "0/0", "-1/0", "0/2", "1/-2", "-1/-2", "1/+2", "1/02",
    "01/2", "-0/2", "-0/1", "/2", "1/", "/", "1//2", "1/2/3", "1/2/", "/1/2", "1 /2", "1/ 2", "1/2 ", " 1/2", "1/2\n", "1:2",
    "1\\2", f"{MORE}/7", f"-{MORE}/7", f"7/{MORE}", f"1/{'1' * 61}", "1/" + "9" * 300,
]


def bent_shapes(good):
    """A text with something amiss that no kind allows."""
    return [
        " " + good, good + " ", "  " + good, good + "  ", good.replace(" ", "  "), good + "\n", "\n" + good, good + "\t",
        good.replace(" ", "\n"), good.replace(" ", "\t"), good + good, good + " " + good, good + ",", "", " ", "\n",
        good.upper() + "!", "[" + good + "]", good[1:-1], good + " 1", good + " 0", "1 " + good, "~" * 1000, good + "~",
    ]


class Told(Case):
    def test_examples(self):
        for shown, _, examples in KINDS:
            for thing, text in examples:
                self.told(text, shown, thing)

    def test_things_of_walks_and_pairs(self):
        for outer, inner, flag in flagged()[::3]:
            for point, line in walk(outer, inner, flag, 5):
                x, y, z = point
                a, b, c = line
                self.told(f"({x}:{y}:{z}) ({a}:{b}:{c})", shown_flag, (point, line))
            self.told(" ".join(map(str, inner)), shown_curve, inner)
            parts = [str(top) if bottom == 1 else f"{top}/{bottom}" for top, bottom in pair_cubic(outer, inner)]
            self.told(" ".join(parts), shown_cubic, pair_cubic(outer, inner))

    def test_more_than_sixty_figures_are_told(self):
        self.told(f"(1:0:{MORE})", shown_triple, (1, 0, MORE))
        self.told(f"(1:0:-{10 ** 3999})", shown_triple, (1, 0, -10 ** 3999))
        self.told(f"back {10 ** 3999}", shown_paper, ("back", 10 ** 3999))
        self.told(f"0 0 1/{MORE}", shown_cubic, ((0, 1), (0, 1), (1, MORE)))

    def test_refused(self):
        for thing in NO_TRIPLES:
            self.refused("NoTriple", shown_triple, thing)
        for thing in NO_FLAGS:
            self.refused("NoFlag", shown_flag, thing)
        for thing in NO_CURVES:
            self.refused("NoCurve", shown_curve, thing)
        for thing in NO_CUBICS:
            self.refused("NoCubic", shown_cubic, thing)
        for thing in NO_PAPERS:
            self.refused("NoPaper", shown_paper, thing)


class Read(Case):
    def test_examples(self):
        for _, read, examples in KINDS:
            for thing, text in examples:
                self.told(thing, read, text)

    def test_what_is_told_is_read_back(self):
        for curve in curves():
            self.told(curve, read_curve, shown_curve(curve))
        for cubic in all_cubics():
            self.told(cubic, read_cubic, shown_cubic(cubic))
        for outer, inner, flag in flagged():
            self.told(flag, read_flag, shown_flag(flag))
            self.told(flag[0], read_triple, shown_triple(flag[0]))
        for seed in range(30):
            three = oracle_kept(number_row(70 + seed, 3, 10 ** (2 * seed + 1)))
            self.told(three, read_triple, shown_triple(three))
        self.told(("never", 3, 5), read_paper, shown_paper(ring_paper((1, 1, -4, 0, 0, 0), (1, 1, -1, 0, 2, 0))))

    def test_bent_shapes(self):
        for _, read, examples in KINDS:
            for _, text in examples:
                for bent in bent_shapes(text):
                    if bent != text:
                        self.refused("NoText", read, bent)

    def test_texts_of_other_kinds(self):
        for _, read, _ in KINDS:
            for _, other, examples in KINDS:
                if other != read:
                    for _, text in examples:
                        self.refused("NoText", read, text)

    def test_bent_numbers(self):
        for bent in BENT_WHOLES:
            for text in (f"({bent}:1:0)", f"(1:{bent}:0)", f"(0:1:{bent})", f"(1:0:{bent})"):
                self.refused("NoText", read_triple, text)
            for text in (f"({bent}:1:0) (1:0:0)", f"(1:0:0) (0:1:{bent})", f"(1:0:0) (1:{bent}:0)"):
                self.refused("NoText", read_flag, text)
            for text in (f"{bent} 1 -1 0 0 0", f"1 {bent} -1 0 0 0", f"1 1 {bent} 0 0 0", f"1 1 -1 {bent} 0 0",
                         f"1 1 -1 0 {bent} 0", f"1 1 -1 0 0 {bent}"):
                self.refused("NoText", read_curve, text)
            for text in (f"back {bent}", f"never {bent} 5", f"never 3 {bent}"):
                self.refused("NoText", read_paper, text)

    def test_bent_fractions(self):
        for bent in BENT_FRACTIONS:
            for text in (f"{bent} 9/2 2", f"7/2 {bent} 2", f"7/2 9/2 {bent}"):
                self.refused("NoText", read_cubic, text)

    def test_figures(self):
        for figures in (1, 2, 59, 60, 61, 62, 100, 300):
            number = 10 ** figures - 1
            for thing, read, shown in (
                ((1, 0, number), read_triple, shown_triple), ((1, -number, 0), read_triple, shown_triple),
                (((1, 0, 0), (1, 0, -number)), read_flag, shown_flag),
                (((1, 0, number), (1, 0, 0)), read_flag, shown_flag),
                ((1, 1, -number, 0, 0, 0), read_curve, shown_curve), ((1, 1, 1, 0, 0, number), read_curve, shown_curve),
                (((0, 1), (0, 1), (number, 7 if number % 7 else 10)), read_cubic, shown_cubic),
                (((0, 1), (0, 1), (-2, number)), read_cubic, shown_cubic),
                (((0, 1), (0, 1), (-number + 1, number)), read_cubic, shown_cubic),
                (("back", number), read_paper, shown_paper), (("never", 3, number), read_paper, shown_paper),
            ):
                if figures <= 60:
                    self.told(thing, read, shown(thing))
                else:
                    self.refused("NoText", read, shown(thing))

    def test_things_that_are_not_kept(self):
        for text in ("(0:0:0)", "(2:0:0)", "(-1:0:0)", "(0:-1:2)", "(2:4:6)", "(0:0:-1)", "(0:0:2)", "(3:3:3)"):
            self.refused("NoText", read_triple, text)
            self.refused("NoText", read_flag, text + " (1:0:0)")
            self.refused("NoText", read_flag, "(1:0:0) " + text)
        for six in FLAT + UNKEPT:
            self.refused("NoText", read_curve, " ".join(map(str, six)))

    def test_no_cubics(self):
        for cubic in FLAT_CUBICS:
            parts = [str(top) if bottom == 1 else f"{top}/{bottom}" for top, bottom in cubic]
            self.refused("NoText", read_cubic, " ".join(parts))

    def test_wrong_numbers_of_parts(self):
        for text in ("(1:0)", "(1)", "()", "(1:0:0:0)", "(:::)", "(::)", "1:0:0", "(1:0:0", "1:0:0)", "((1:0:0))", "(", ")",
                     ")1:0:0(", "(1:0:0))", "[1:0:0)", "(1:0:0]", "11:0:0)", "(1:0:01", " 1:0:0)", "(1:0:0 ", "(1 : 0 : 0)", "(1,0,0)", "(1 0 0)", "(1:0: 0)", "[1:0:0]", "(1:0:0)(1:0:0)"):
            self.refused("NoText", read_triple, text)
        for text in ("(1:0:0)", "(1:0:0)(0:1:0)", "(1:0:0) (0:1:0) (0:0:1)", "(1:0:0),(0:1:0)", "(1:0:0) ", " (1:0:0)", "(1:0:0) 0"):
            self.refused("NoText", read_flag, text)
        for text in ("1 1 -1 0 0", "1 1 -1 0 0 0 0", "1", "1 1 -1", "1,1,-1,0,0,0", "(1 1 -1 0 0 0)", "11-1000"):
            self.refused("NoText", read_curve, text)
        for text in ("7/2 9/2", "7/2 9/2 2 1", "2", "7/2,9/2,2", "7/2 9/2 2 ", "1 7/2 9/2 2"):
            self.refused("NoText", read_cubic, text)
        for text in ("back", "never", "never 3", "back 3 5", "never 3 5 7", "3", "3 5", "Back 3", "BACK 3", "never", "back-3",
                     "back 3/2", "back -1", "never -3 5", "never 3 -5", "ever 3 5", "back3", "3 back", "backs 3", "never 3,5"):
            self.refused("NoText", read_paper, text)

    def test_what_is_no_text(self):
        for _, read, examples in KINDS:
            for thing in anything():
                if not isinstance(thing, str):
                    self.refused("NoText", read, thing)
            for thing, text in examples:
                self.refused("NoText", read, thing)
                self.refused("NoText", read, [text])
                self.refused("NoText", read, (text,))


if __name__ == "__main__":
    unittest.main()
