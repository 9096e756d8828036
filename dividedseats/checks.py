"""Checks of the kinds of values that all chapters share, and how fractions are compared."""

from math import gcd

from dividedseats.errors import BadValue


def check(good, name):
    """Raise BadValue with the name of the argument unless it is good."""
    if not good:
        raise BadValue(name)


def is_whole(value):
    """Tell whether the value is an integer."""
    # Python counts True and False among the integers, the program does not.
    return isinstance(value, int) and not isinstance(value, bool)


def is_between(value, low, high):
    """Tell whether the value is an integer from low to high."""
    return is_whole(value) and low <= value <= high


def is_from(value, low):
    """Tell whether the value is an integer from low on, of any size."""
    return is_whole(value) and value >= low


def is_row(value, low, high):
    """Tell whether the value is a tuple of integers from low to high."""
    return isinstance(value, tuple) and all(is_between(item, low, high) for item in value)


def is_pair(value):
    """Tell whether the value is a pair."""
    return isinstance(value, tuple) and len(value) == 2


def is_ratio(value):
    """Tell whether the value is a pair of integers from 1 on, of any size."""
    return is_pair(value) and all(is_from(item, 1) for item in value)


def lowest(p, q):
    """Return the ratio without a common divisor."""
    common = gcd(p, q)
    return (p // common, q // common)


def divided_up(number, by):
    """Return the least integer that is not less than the number divided."""
    return -(-number // by)


def is_less(one, other):
    """Tell whether the first fraction is less, of two tuples that begin with such pairs."""
    return one[0] * other[1] < other[0] * one[1]
