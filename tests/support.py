"""What the tests need in common."""

import copy
import unittest

from roundsides import errors

REFUSALS = (
    "NoBottom", "NoFraction", "NoTriple", "Alike", "NoCurve", "NoPair", "NoFlag", "NoCubic", "NoTable",
    "NoSpot", "NoClock", "NoChord", "NoSides", "NoCircle", "TooMany", "NoPaper", "NoText", "NoLine",
)

THIRTY = 10 ** 29 + 33
FORTY = 10 ** 39 + 3


def nested(depth):
    """A list and a tuple in turn, so many deep."""
    thing = 1
    for level in range(depth):
        thing = [thing] if level & 1 else (thing,)
    return thing


def anything():
    """Things of every kind that may be handed in, none of which is a fraction, a triple or a curve."""
    return [
        None, True, False, 0, 1, -1, THIRTY, FORTY, "", "a", "1/2", "(1:0:0)", "1 1 -1 0 0 0", "abc", "abcdef",
        "~" * 1000, "\n",
        (), (1,), (1, 2, 3, 4), (1, 2, 3, 4, 5), (1, 2, 3, 4, 5, 6, 7), tuple(range(1, 101)),
        [], [1], [1, 2], [1, 0, 0], [1, 1, -1, 0, 0, 0], list(range(100)),
        (None, None), (None, None, None), (None,) * 6,
        (True, 2), (1, True), (True, True), (False, True), ("1", 2), (1, "2"), ([1], 2), (1, (2,)), ((1, 2), (1, 2)),
        (True, 0, 0), (1, False, 0), (1, 0, True), (False, False, True), ("1", 0, 0), (1, None, 0), (1, 0, [0]),
        ((1, 0, 0), (0, 1, 0), (0, 0, 1)), ((1, 0, 0),), [(1, 0, 0)],
        (True, 1, -1, 0, 0, 0), (1, 1, -1, 0, 0, False), (1, 1, "-1", 0, 0, 0), (1, 1, None, 0, 0, 0),
        (1, 1, -1, 0, 0, (0,)), ((1, 1, -1, 0, 0, 0),), [(1, 1, -1, 0, 0, 0)],
        nested(20), nested(19), (nested(19), 1), (1, nested(18), 0), [nested(18)] * 5,
    ]


def number_row(seed, many, most):
    """So many whole numbers from -most to most, the same ones for the same seed."""
    row = []
    state = seed
    for _ in range(many):
        worth = 0
        while worth <= 2 * most * 2 ** 32:
            state = (state * 6364136223846793005 + 1442695040888963407) % 2 ** 64
            worth = worth * 2 ** 32 + state // 2 ** 32
        row.append(worth % (2 * most + 1) - most)
    return row


class Case(unittest.TestCase):
    def refused(self, name, function, *handed):
        """The call is refused with just that class, and leaves what is handed in as it was."""
        before = copy.deepcopy(handed)
        with self.assertRaises(ValueError) as caught:
            function(*handed)
        self.assertIs(type(caught.exception), getattr(errors, name), (function.__name__, handed))
        self.assertIsInstance(caught.exception, errors.RoundError)
        self.assertEqual(repr(handed), repr(before))

    def told(self, worth, function, *handed):
        """The call tells just that, of that very kind, twice, and leaves what is handed in as it was."""
        before = copy.deepcopy(handed)
        for _ in range(2):
            # repr tells 1 from True and (1, 2) from [1, 2], which == does not always do.
            self.assertEqual(repr(function(*handed)), repr(worth), (function.__name__, handed))
        self.assertEqual(repr(handed), repr(before))
