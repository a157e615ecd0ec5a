"""Whole numbers, and tuples of them: what the other modules need in common."""

from roundsides.errors import TooMany


def is_whole(thing):
    """Whether anything is a whole number; True and False are none, though Python counts them as such."""
    return isinstance(thing, int) and not isinstance(thing, bool)


def are_wholes(thing, many):
    """Whether anything is a tuple of so many whole numbers."""
    return isinstance(thing, tuple) and len(thing) == many and all([is_whole(part) for part in thing])


def need_within(thing, least, most):
    """Refuses what is no whole number from least to most."""
    if not is_whole(thing) or thing < least or thing > most:
        raise TooMany("this is no whole number within the bounds")


def common_divisor(one, other):
    """The greatest common divisor of two whole numbers, 0 only of two noughts."""
    while other != 0:
        one, other = other, one % other
    return abs(one)


def divisor_of_all(numbers):
    """The greatest common divisor of a tuple of whole numbers, 0 where all are 0."""
    divisor = 0
    for number in numbers:
        divisor = common_divisor(number, divisor)
    return divisor


def first_sign(numbers):
    """1 or -1 as the first number that is not 0 is above or below 0, and 0 where all are 0."""
    for number in numbers:
        if number != 0:
            return 1 if number > 0 else -1
    return 0


def kept(numbers):
    """The numbers, not all 0, times the one fraction that leaves no common divisor and the first one above 0."""
    divisor = divisor_of_all(numbers) * first_sign(numbers)
    return tuple([number // divisor for number in numbers])


def are_kept(numbers):
    """Whether kept would leave the numbers as they are; not so where all are 0."""
    return first_sign(numbers) == 1 and divisor_of_all(numbers) == 1


def whole_root(number):
    """The greatest whole number whose square is no greater than the number, which is 0 or more."""
    if number == 0:
        return 0
    # Newton's steps only fall when they begin at or above the root, so the first that does not fall ends them.
    root = 1 << ((number.bit_length() + 1) // 2)
    better = (root + number // root) // 2
    while better < root:
        root = better
        better = (root + number // root) // 2
    return root


def exact_root(number):
    """The whole number of 0 or more whose square is the number, or None where there is none."""
    if number < 0:
        return None
    root = whole_root(number)
    return root if root * root == number else None
