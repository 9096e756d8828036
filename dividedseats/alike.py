"""Two methods: whether their divisors are the same, or in some ratio."""

from dividedseats.checks import check, is_ratio, is_row, lowest
from dividedseats.methods import GREATEST_INDEX, divisor_at, is_method, normal, reduced


def have_same(first, second):
    """Tell whether both methods have the same divisors."""
    check_both(first, second)
    return normal(first) == normal(second)


def ratio_of(first, second):
    """Return the ratio in which the divisors of both are, or None."""
    check_both(first, second)
    if reduced(first) != reduced(second):
        return None
    # The reduced forms are equal, so the steps are in the ratio of all divisors.
    return lowest(first[1], second[1])


def accepts_ratio(first, second, value):
    """Tell whether the value is a ratio in which the divisors of both are."""
    check_both(first, second)
    return shows_ratio(first, second, value)


def told_indexes(first, second):
    """Return the first indexes that show that the divisors are in no ratio, or None."""
    check_both(first, second)
    # If no divisor differs in its ratio from the one with the index 0, none do.
    for index in range(1, compared(first, second)):
        if differ_at(first, second, 0, index):
            return (0, index)
    return None


def accepts_indexes(first, second, value):
    """Tell whether the value is two indexes that show that the divisors are in no ratio."""
    check_both(first, second)
    if not is_row(value, 0, GREATEST_INDEX) or len(value) != 2:
        return False
    return differ_at(first, second, value[0], value[1])


def check_both(first, second):
    """Raise BadValue unless both are methods."""
    check(is_method(first), "first")
    check(is_method(second), "second")


def shows_ratio(first, second, value):
    """Tell whether the value is a ratio in which the divisors of both methods are."""
    if not is_ratio(value):
        return False
    p, q = value
    return all(
        divisor_at(first, index) * q == divisor_at(second, index) * p
        for index in range(compared(first, second))
    )


def compared(first, second):
    """Return how many divisors are enough to tell about all of them."""
    # One more than the firsts, so that both steps are compared, too.
    return max(len(first[0]), len(second[0])) + 1


def differ_at(first, second, one, other):
    """Tell whether the divisors with the two indexes are in different ratios."""
    left = divisor_at(first, one) * divisor_at(second, other)
    right = divisor_at(first, other) * divisor_at(second, one)
    return left != right
