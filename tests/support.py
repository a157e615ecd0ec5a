"""What the tests need in common."""

import copy
import unittest

from roundsides import errors

REFUSALS = (
    "NoBottom", "NoFraction", "NoTriple", "Alike", "NoCurve", "NoPair", "NoFlag", "NoCubic", "NoTable",
    "NoSpot", "NoClock", "NoChord", "NoSides", "NoCircle", "TooMany", "NoPaper", "NoText", "NoLine",
)

THIRTY = 10 ** 29 + 33
FORTY = 10 ** 39 + 3


def nested(depth):
    """A list and a tuple in turn, so many deep."""
    thing = 1
    for level in range(depth):
        thing = [thing] if level & 1 else (thing,)
    return thing


def anything():
    """Things of every kind that may be handed in, none of which is a fraction, a triple or a curve."""
    return [
        None, True, False, 0, 1, -1, THIRTY, FORTY, "", "a", "1/2", "(1:0:0)", "1 1 -1 0 0 0", "abc", "abcdef",
        "~" * 1000, "\n",
        (), (1,), (1, 2, 3, 4), (1, 2, 3, 4, 5), (1, 2, 3, 4, 5, 6, 7), tuple(range(1, 101)),
        [], [1], [1, 2], [1, 0, 0], [1, 1, -1, 0, 0, 0], list(range(100)),
        (None, None), (None, None, None), (None,) * 6,
        (True, 2), (1, True), (True, True), (False, True), ("1", 2), (1, "2"), ([1], 2), (1, (2,)), ((1, 2), (1, 2)),
        (True, 0, 0), (1, False, 0), (1, 0, True), (False, False, True), ("1", 0, 0), (1, None, 0), (1, 0, [0]),
        ((1, 0, 0), (0, 1, 0), (0, 0, 1)), ((1, 0, 0),), [(1, 0, 0)],
        (True, 1, -1, 0, 0, 0), (1, 1, -1, 0, 0, False), (1, 1, "-1", 0, 0, 0), (1, 1, None, 0, 0, 0),
        (1, 1, -1, 0, 0, (0,)), ((1, 1, -1, 0, 0, 0),), [(1, 1, -1, 0, 0, 0)],
        nested(20), nested(19), (nested(19), 1), (1, nested(18), 0), [nested(18)] * 5,
    ]


def number_row(seed, many, most):
    """So many whole numbers from -most to most, the same ones for the same seed."""
    row = []
    state = seed
    for _ in range(many):
        worth = 0
        while worth <= 2 * most * 2 ** 32:
            state = (state * 6364136223846793005 + 1442695040888963407) % 2 ** 64
            worth = worth * 2 ** 32 + state // 2 ** 32
        row.append(worth % (2 * most + 1) - most)
    return row


CIRCLE = (1, 1, -1, 0, 0, 0)

FLAT = [
    (0, 0, 0, 0, 0, 0), (1, 0, 0, 0, 0, 0), (0, 0, 1, 0, 0, 0), (0, 0, 0, 0, 0, 1), (1, 1, 0, 0, 0, 0),
    (1, -1, 0, 0, 0, 0), (1, 1, 1, 2, 2, 2), (1, 4, 0, 0, 0, 4), (0, 0, 0, 1, 1, 0), (1, FORTY, 0, 0, 0, 0),
    (1, FORTY * FORTY, 0, 0, 0, 2 * FORTY),
]

UNKEPT = [
    (-1, -1, 1, 0, 0, 0), (2, 2, -2, 0, 0, 0), (0, -1, 0, 0, 2, 0), (0, 0, 0, 2, 2, 2), (3, 3, 3, 0, 0, 6),
    (-FORTY, 1, 1, 0, 0, 0), (2 * FORTY, 2, 2, 0, 0, 0), (0, 0, 0, 0, 0, 2), (2, 0, 0, 0, 0, 0),
]

NO_CURVES = anything() + FLAT + UNKEPT + [
    (1, 0, 0), (1, 2), (1, 1, -1, 0, 0), (1, 1, -1, 0, 0, 0, 0), [1, 1, -1, 0, 0, 0], (1, 1, -1, 0, 0, False),
]

NO_TRIPLES = anything() + [(0, 0, 0), (2, 0, 0), (-1, 0, 0), (0, -1, 1), (1, 2), CIRCLE, [1, 0, 0], (1, 0, False)]


# Two curves each that meet in fewer than four points.
NO_PAIRS = [
    (CIRCLE, CIRCLE), (CIRCLE, (1, 1, -4, 0, 0, 0)), (CIRCLE, (4, 1, -1, 0, 0, 0)), (CIRCLE, (1, 1, 0, 0, -1, 0)),
    ((0, 1, 0, 0, 2, 0), (1, 1, 0, 0, 2, 0)), ((0, 1, 0, 0, 2, 0), (0, 1, 0, 0, 4, 0)),
    ((0, 1, 0, 0, 2, 0), (0, 1, 1, 0, 2, 0)), (CIRCLE, (FORTY, FORTY, -1, 0, 0, 0)),
    ((FORTY, 1, -1, 0, 0, 0), (FORTY, 2, -1, 0, 0, 0)),
]

# Of each the third fraction is 0, or two roots are one.
FLAT_CUBICS = [
    ((0, 1), (0, 1), (0, 1)), ((1, 1), (1, 1), (0, 1)), ((-7, 2), (5, 3), (0, 1)),
    ((3, 1), (3, 1), (1, 1)), ((-3, 2), (3, 4), (-1, 8)), ((4, 1), (5, 1), (2, 1)), ((0, 1), (-3, 1), (2, 1)),
    ((2, 1), (1, 1), (0, 1)), ((FORTY * 3, 1), (FORTY ** 2 * 3, 1), (FORTY ** 3, 1)),
]

NO_CUBICS = anything() + FLAT_CUBICS + [
    (1, 2), (1, 0, 0), (1, 1, 2), CIRCLE, ((1, 1), (1, 1)), ((1, 1),) * 4, ((1, 1), (1, 1), 2), (1, (1, 1), (2, 1)),
    [(1, 1), (1, 1), (2, 1)], ([1, 1], (1, 1), (2, 1)), ((1, 1), [1, 1], (2, 1)), ((1, 1), (1, 1), [2, 1]),
    ((1, 1), (1, 1), (4, 2)), ((2, 2), (1, 1), (2, 1)), ((1, 1), (-1, -1), (2, 1)), ((1, 1), (1, 1), (2, 0)),
    ((1, 1), (1, 1), (2, True)), ((True, 1), (1, 1), (2, 1)), ((1, 1), (False, 1), (2, 1)), ((1, 1), (1, "1"), (2, 1)),
    ("1/2", "1/3", "1/5"), (None, (1, 1), (2, 1)), ((1, 1), (1, 1), None), ((1, 1), (1, 1), (2, 1, 1)),
]

# What is no whole number at all, and what is one of thirty figures.
NO_NUMBERS = [
    None, True, False, "", "3", "5", "~" * 1000, (), [], (3,), [3], (3, 1), ((3, 1),), nested(20), THIRTY, -THIRTY,
]


def exactly(thing):
    """A thing with the kinds of all its parts: 1 is unlike True there, and (1, 2) unlike [1, 2]."""
    if isinstance(thing, (list, tuple)):
        return (type(thing), [exactly(part) for part in thing])
    return (type(thing), thing)


def shown(thing):
    try:
        return repr(thing)
    except ValueError:
        return "numbers of too many figures to be shown"


class Case(unittest.TestCase):
    def refused(self, name, function, *handed):
        """The call is refused with just that class, and leaves what is handed in as it was."""
        before = copy.deepcopy(handed)
        with self.assertRaises(ValueError) as caught:
            function(*handed)
        self.assertIs(type(caught.exception), getattr(errors, name), (function.__name__, handed))
        self.assertIsInstance(caught.exception, errors.RoundError)
        self.assertEqual(exactly(handed), exactly(before))

    def told(self, worth, function, *handed):
        """The call tells just that, of that very kind, twice, and leaves what is handed in as it was."""
        before = copy.deepcopy(handed)
        for _ in range(2):
            told = function(*handed)
            if exactly(told) != exactly(worth):
                self.fail(f"{function.__name__} of {shown(handed)} told {shown(told)}, not {shown(worth)}")
        self.assertEqual(exactly(handed), exactly(before))
