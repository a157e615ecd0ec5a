"""The desk: it takes lines, and answers each with a line."""

from roundsides.chords import chord_curve
from roundsides.circles import circle_curve
from roundsides.clocks import clocks_of, rest_order
from roundsides.counts import judge_paper, ring_count, ring_paper
from roundsides.errors import NoFlag, NoLine, NoText
from roundsides.firsts import first_flags
from roundsides.pairs import need_pair, pair_cubic
from roundsides.texts import (
    read_curve, read_flag, read_fraction, read_paper, read_whole, shown_cubic, shown_curve, shown_flag, shown_paper,
)
from roundsides.walks import flag_back, is_flag, next_flag


def take_outer(desk, curve):
    """Takes an outer curve, for which no flag is known yet."""
    desk.outer = curve
    desk.flag = None
    return "outer"


def take_inner(desk, curve):
    """Takes an inner curve, for which no flag is known yet."""
    desk.inner = curve
    desk.flag = None
    return "inner"


def take_flag(desk, flag):
    """Takes a flag, and tells its text."""
    answer = shown_flag(flag)
    desk.flag = flag
    return answer


def tell_outer(desk, rest):
    """Takes the outer curve written."""
    return take_outer(desk, read_curve(rest))


def tell_inner(desk, rest):
    """Takes the inner curve written."""
    return take_inner(desk, read_curve(rest))


TAKERS = {"outer": take_outer, "inner": take_inner}


def tell_circle(desk, rest):
    """Takes the circle written as the curve named."""
    which, *numbers = rest.split(" ")
    if which not in TAKERS or len(numbers) != 3:
        raise NoLine("no circle is written so")
    x, y, square = [read_fraction(number) for number in numbers]
    taker = TAKERS[which]
    return taker(desk, circle_curve(x, y, square))


def tell_count(desk):
    """The count, or never."""
    count = ring_count(desk.outer, desk.inner)
    return "never" if count is None else str(count)


def tell_paper(desk):
    """The paper."""
    return shown_paper(ring_paper(desk.outer, desk.inner))


def tell_judge(desk, rest):
    """Whether the paper written shows what it says."""
    return "yes" if judge_paper(desk.outer, desk.inner, read_paper(rest)) else "no"


def tell_cubic(desk):
    """The cubic."""
    return shown_cubic(pair_cubic(desk.outer, desk.inner))


def tell_clocks(desk):
    """The clocks, or none."""
    clocks = clocks_of(desk.outer, desk.inner)
    return " ".join([str(clock) for clock in clocks]) if clocks else "none"


def tell_order(desk, rest):
    """The order by the clock written."""
    return str(rest_order(desk.outer, desk.inner, read_whole(rest)))


def tell_chord(desk, rest):
    """The curve of the chords of as many steps as are written."""
    return shown_curve(chord_curve(desk.outer, desk.inner, read_whole(rest)))


def tell_flag(desk, rest):
    """Takes the flag written."""
    flag = read_flag(rest)
    if not is_flag(desk.outer, desk.inner, flag):
        raise NoFlag("this is no flag of these curves")
    desk.flag = flag
    return "flag"


def need_flag(desk):
    """Refuses where no flag is taken."""
    if desk.flag is None:
        raise NoFlag("no flag is taken")


def tell_next(desk):
    """Goes on to the next flag."""
    need_flag(desk)
    return take_flag(desk, next_flag(desk.outer, desk.inner, desk.flag))


def tell_back(desk):
    """Goes back to the flag ahead."""
    need_flag(desk)
    return take_flag(desk, flag_back(desk.outer, desk.inner, desk.flag))


def tell_first(desk, rest):
    """Takes the first flag whose line has numbers as small as written, or tells none."""
    flags = first_flags(desk.outer, desk.inner, read_whole(rest))
    return take_flag(desk, flags[0]) if flags else "none"


def tell_here(desk):
    """The flag, or none."""
    return "none" if desk.flag is None else shown_flag(desk.flag)


BARE = {
    "count": tell_count, "paper": tell_paper, "cubic": tell_cubic, "clocks": tell_clocks, "next": tell_next,
    "back": tell_back, "here": tell_here,
}

FOLLOWED = {
    "outer": tell_outer, "inner": tell_inner, "circle": tell_circle, "judge": tell_judge, "order": tell_order,
    "chord": tell_chord, "flag": tell_flag, "first": tell_first,
}


def answer_to(desk, line):
    """The answer to a line."""
    if line in BARE:
        bare = BARE[line]
        return bare(desk)
    word, blank, rest = line.partition(" ")
    if word not in FOLLOWED or blank == "":
        raise NoLine("no line begins so")
    followed = FOLLOWED[word]
    return followed(desk, rest)


class Desk:
    """Two curves and perhaps a flag of them, asked and changed by lines."""

    def __init__(self):
        self.outer = (1, 1, -4, 0, 0, 0)
        self.inner = (1, 1, -1, 0, 2, 0)
        self.flag = None

    def tell(self, line):
        """Takes a line and answers it with a line."""
        if not isinstance(line, str):
            raise NoLine("this is no line")
        try:
            return answer_to(self, line)
        except NoText:
            raise NoLine("this line has none of the forms known") from None
