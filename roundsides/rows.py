"""The row whose square is a cubic, its tables, and what they tell: whether walks come back."""

from roundsides.errors import NoTable
from roundsides.fracs import fraction_of, is_fraction, one_bottom
from roundsides.pairs import need_cubic, whole_cubic
from roundsides.wholes import need_within


def whole_row(four, many):
    """The numbers s(n) of the row, n from 0 to many, each times 4w to the n: so all of them are whole."""
    w, u, v, r = four
    square = [1, 4 * u, 16 * v * w, 64 * r * w * w]
    row = [1]
    for n in range(1, many + 1):
        middle = sum([row[i] * row[n - i] for i in range(1, n)])
        wanted = square[n] if n <= 3 else 0
        # Both divide by 4, the middle because all numbers behind the first are even: and so is this one.
        row.append((wanted - middle) // 2)
    return row


def root_row(cubic, many):
    """The first many + 1 fractions of the row whose square is the cubic."""
    need_cubic(cubic)
    need_within(many, 0, 30)
    four = whole_cubic(cubic)
    row = []
    bottom = 1
    for number in whole_row(four, many):
        row.append(fraction_of(number, bottom))
        bottom *= 4 * four[0]
    return row


def ring_table(cubic, sides):
    """The square table of the row's fractions that tells of so many sides."""
    need_cubic(cubic)
    need_within(sides, 3, 24)
    row = root_row(cubic, sides - 1)
    size = (sides - 1) // 2
    first = 2 if sides & 1 else 3
    return [[row[first + i + j] for j in range(size)] for i in range(size)]


def is_table_row(thing, many):
    """Whether anything is a list of so many fractions."""
    return isinstance(thing, list) and len(thing) == many and all([is_fraction(part) for part in thing])


def need_table(thing):
    """Refuses what is no square table of no rows to twelve."""
    if not isinstance(thing, list) or len(thing) > 12 or not all([is_table_row(row, len(thing)) for row in thing]):
        raise NoTable("this is no table of as many rows as fractions in each")


def taken_from(row, top, at, before):
    """A row, with as much of the top row taken from it as leaves 0 at a place."""
    return [(top[at] * number - row[at] * other) // before for number, other in zip(row, top)]


def whole_worth(table):
    """The determinant of a table of whole numbers."""
    rows = list(table)
    sign = 1
    before = 1
    for at in range(len(table)):
        leads = [low for low in range(at, len(rows)) if rows[low][at] != 0]
        if not leads:
            return 0
        if leads[0] != at:
            rows[at], rows[leads[0]] = rows[leads[0]], rows[at]
            sign = -sign
        top = rows[at]
        # Each number that is left is a determinant of numbers of the table, times the last lead: so the last lead
        # goes into it, and the numbers stay short (Bareiss).
        rows = rows[:at + 1] + [taken_from(row, top, at, before) for row in rows[at + 1:]]
        before = top[at]
    return sign * before


def table_worth(rows):
    """The determinant of a square table of fractions."""
    need_table(rows)
    table = []
    bottom = 1
    for row in rows:
        row_bottom, tops = one_bottom(row)
        table.append(tops)
        bottom *= row_bottom
    return fraction_of(whole_worth(table), bottom)


def comes_back(cubic, sides):
    """Whether every walk of curves with the cubic is at its first flag again behind so many sides."""
    return table_worth(ring_table(cubic, sides)) == (0, 1)
