"""Texts: how fractions, triples, flags, curves, cubics and papers are written, and read again."""

from roundsides.counts import is_paper
from roundsides.curves import is_curve, need_curve
from roundsides.errors import NoFlag, NoPaper, NoText
from roundsides.fracs import is_fraction
from roundsides.pairs import is_cubic, need_cubic
from roundsides.points import are_two_triples, is_triple, need_triple

FIGURES = "0123456789"
MOST_FIGURES = 60


def shown_fraction(fraction):
    """The text of a fraction."""
    top, bottom = fraction
    return str(top) if bottom == 1 else f"{top}/{bottom}"


def shown_triple(triple):
    """The text of a triple."""
    need_triple(triple)
    x, y, z = triple
    return f"({x}:{y}:{z})"


def shown_flag(flag):
    """The text of a flag, of whatever curves."""
    if not are_two_triples(flag):
        raise NoFlag("this is no tuple of two triples")
    return f"{shown_triple(flag[0])} {shown_triple(flag[1])}"


def shown_curve(curve):
    """The text of a curve."""
    need_curve(curve)
    return " ".join([str(number) for number in curve])


def shown_cubic(cubic):
    """The text of a cubic."""
    need_cubic(cubic)
    return " ".join([shown_fraction(part) for part in cubic])


def shown_paper(paper):
    """The text of a paper."""
    if not is_paper(paper):
        raise NoPaper("this is no paper")
    return " ".join([str(part) for part in paper])


def parts_of(text):
    """The parts of a text between its blanks; refuses what is no text."""
    if not isinstance(text, str):
        raise NoText("this is no text")
    return text.split(" ")


def read_whole(text):
    """The whole number that is written as a text."""
    figures = text[1:] if text.startswith("-") else text
    if figures == "" or len(figures) > MOST_FIGURES or not all([sign in FIGURES for sign in figures]):
        raise NoText("no whole number is written so")
    number = int(text)
    # Needless noughts and -0 are read by Python, but never written.
    if str(number) != text:
        raise NoText("no whole number is written so")
    return number


def read_fraction(text):
    """The fraction that is written as a text."""
    parts = [read_whole(part) for part in text.split("/")]
    if len(parts) == 1:
        return (parts[0], 1)
    fraction = tuple(parts)
    if not is_fraction(fraction) or fraction[1] == 1:
        raise NoText("no fraction is written so")
    return fraction


def read_triple(text):
    """The triple that is written as a text."""
    if not isinstance(text, str) or not text.startswith("(") or not text.endswith(")"):
        raise NoText("no triple is written so")
    triple = tuple([read_whole(part) for part in text[1:-1].split(":")])
    if not is_triple(triple):
        raise NoText("no triple is written so")
    return triple


def read_flag(text):
    """The flag, of whatever curves, that is written as a text."""
    flag = tuple([read_triple(part) for part in parts_of(text)])
    if len(flag) != 2:
        raise NoText("no flag is written so")
    return flag


def read_curve(text):
    """The curve that is written as a text."""
    curve = tuple([read_whole(part) for part in parts_of(text)])
    if not is_curve(curve):
        raise NoText("no curve is written so")
    return curve


def read_cubic(text):
    """The cubic that is written as a text."""
    cubic = tuple([read_fraction(part) for part in parts_of(text)])
    if not is_cubic(cubic):
        raise NoText("no cubic is written so")
    return cubic


def read_paper(text):
    """The paper that is written as a text."""
    word, *numbers = parts_of(text)
    paper = (word,) + tuple([read_whole(number) for number in numbers])
    if not is_paper(paper):
        raise NoText("no paper is written so")
    return paper
