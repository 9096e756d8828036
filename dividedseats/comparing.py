"""Two methods: whether they are equivalent, and votes that tell them apart."""

from dividedseats.alike import compared, differ_at, ratio_of, shows_ratio
from dividedseats.checks import check, is_between, is_less, is_pair, is_ratio
from dividedseats.methods import divisor_at, index_pairs, is_method
from dividedseats.shares import wrong_pair

GREATEST_HOUSE = 100


def are_equivalent(method, other):
    """Tell whether the methods are equivalent."""
    check_methods(method, other)
    return ratio_of(method, other) is not None


def common_ratio(method, other):
    """Return the ratio that shows that the methods are equivalent, or None."""
    check_methods(method, other)
    return ratio_of(method, other)


def accepts_ratio(method, other, value):
    """Tell whether the value is a ratio that shows that the methods are equivalent."""
    check_methods(method, other)
    return shows_ratio(method, other, value)


def telling_votes(method, other):
    """Return the votes and the house that tell the methods apart, or None."""
    check_methods(method, other)
    for one, behind in index_pairs(compared(method, other)):
        if differ_at(method, other, one, behind):
            return between_both(method, other, one, behind)
    return None


def accepts_telling(method, other, value):
    """Tell whether no division of the house is valid for both of the methods."""
    check_methods(method, other)
    if not is_question(value):
        return False
    taken = first_shares(other, value)
    return not any(own in taken for own in first_shares(method, value))


def check_methods(method, other):
    """Raise BadValue unless both are methods."""
    check(is_method(method), "method")
    check(is_method(other), "other")


def quotient(method, one, behind):
    """Return the divisor with the one index by that with the other one."""
    return (divisor_at(method, one), divisor_at(method, behind))


def between_both(method, other, one, behind):
    """Return the simplest votes between the quotients of both methods, and the house for them."""
    low = quotient(method, one, behind)
    high = quotient(other, one, behind)
    if is_less(high, low):
        low, high = high, low
    return (simplest_between(low, high), one + behind + 1)


def simplest_between(low, high):
    """Return the simplest ratio that is greater than the one fraction and less than the other."""
    whole = low[0] // low[1]
    if (whole + 1) * high[1] < high[0]:
        return (whole + 1, 1)
    # Both lie between two neighboring integers, so what they have beyond the lesser one is turned
    # over. If the low one has nothing beyond it, this is a pair with 0 behind, which the comparison
    # above takes as greater than any fraction.
    p, q = simplest_between(
        (high[1], high[0] - whole * high[1]),
        (low[1], low[0] - whole * low[1]),
    )
    return (whole * p + q, p)


def is_question(value):
    """Tell whether the value is the votes of two parties, and a house for them."""
    if not is_pair(value):
        return False
    votes, house = value
    # Votes of any size, for two parties, have the form of a ratio.
    return is_ratio(votes) and is_between(house, 1, GREATEST_HOUSE)


def first_shares(method, question):
    """Return the numbers of seats that the first of two parties has in valid seats."""
    votes, house = question
    row = [divisor_at(method, index) for index in range(house + 1)]
    return [
        own for own in range(house + 1) if wrong_pair(row, votes, (own, house - own)) is None
    ]
