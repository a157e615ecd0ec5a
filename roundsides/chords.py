"""Chords: the lines from each corner of a walk to the corner some steps further on."""

from roundsides.curves import determinant, kept_curve
from roundsides.errors import NoChord
from roundsides.pairs import need_pair, pair_cubic
from roundsides.spots import spot_times
from roundsides.wholes import need_within

FIRST_SPOT = ((0, 1), (1, 1))


def chord_curve(outer, inner, steps):
    """The curve that all lines from a corner of a walk to the corner so many steps further on touch."""
    need_pair(outer, inner)
    need_within(steps, 1, 12)
    spot = spot_times(pair_cubic(outer, inner), FIRST_SPOT, steps)
    if spot is None:
        raise NoChord("these corners are one")
    top, bottom = spot[0]
    six = tuple([top * one + bottom * other for one, other in zip(outer, inner)])
    if determinant(six) == 0:
        raise NoChord("these lines all go through one point")
    return kept_curve(six)
