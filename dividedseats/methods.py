"""Methods: the firsts of their divisors, and the step behind them."""

from math import gcd

from dividedseats.checks import check, is_between, is_pair, is_row
from dividedseats.errors import TooLarge

MOST_FIRSTS = 6
GREATEST_FIRST = 1000
GREATEST_STEP = 1000
GREATEST_INDEX = 100
MOST_DIVISORS = 20
GREATEST_NUMBER = 100000
GREATEST_FACTOR = 1000


def is_method(value):
    """Tell whether the value is a method."""
    if not is_pair(value):
        return False
    firsts, step = value
    return are_firsts(firsts) and is_between(step, 1, GREATEST_STEP)


def are_firsts(value):
    """Tell whether the value can be the firsts of a method."""
    if not is_row(value, 1, GREATEST_FIRST):
        return False
    if not 1 <= len(value) <= MOST_FIRSTS:
        return False
    return all(low <= high for low, high in zip(value, value[1:]))


def divisor(method, index):
    """Return the divisor with the index."""
    check(is_method(method), "method")
    check(is_between(index, 0, GREATEST_INDEX), "index")
    return divisor_at(method, index)


def divisors(method, many):
    """Return the tuple of so many first divisors."""
    check(is_method(method), "method")
    check(is_between(many, 0, MOST_DIVISORS), "many")
    return tuple(divisor_at(method, index) for index in range(many))


def divisor_at(method, index):
    """Return the divisor with the index, of any size, without checks."""
    firsts, step = method
    last = len(firsts) - 1
    if index <= last:
        return firsts[index]
    return firsts[last] + (index - last) * step


def index_pairs(many):
    """Return the pairs of indexes below the number, by their sums, and then by the first ones."""
    return [
        (one, total - one)
        for total in range(2 * many - 1)
        for one in range(total + 1)
        if one < many and total - one < many
    ]


def first_beyond(method, number):
    """Return the least index of a divisor that is greater than the number."""
    check(is_method(method), "method")
    check(is_between(number, 0, GREATEST_NUMBER), "number")
    firsts, step = method
    for index, first in enumerate(firsts):
        if first > number:
            return index
    return len(firsts) + (number - firsts[-1]) // step


def normal(method):
    """Return the normal form: the same divisors, told with the fewest firsts."""
    check(is_method(method), "method")
    firsts, step = method
    many = len(firsts)
    while many > 1 and firsts[many - 1] == firsts[many - 2] + step:
        many -= 1
    return (firsts[:many], step)


def reduced(method):
    """Return the normal form without the common divisor of its numbers."""
    firsts, step = normal(method)
    common = step
    for item in firsts:
        common = gcd(common, item)
    return (tuple(first // common for first in firsts), step // common)


def multiplied(method, number):
    """Return the method with its firsts and its step multiplied by the number."""
    check(is_method(method), "method")
    check(is_between(number, 1, GREATEST_FACTOR), "number")
    firsts, step = method
    greater = (tuple(first * number for first in firsts), step * number)
    if not is_method(greater):
        raise TooLarge("divisors")
    return greater
