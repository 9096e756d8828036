"""Two methods: whether the other one favors smaller parties."""

from dividedseats.alike import compared
from dividedseats.checks import is_less
from dividedseats.comparing import (
    between_both,
    check_methods,
    first_shares,
    is_question,
    quotient,
)
from dividedseats.methods import index_pairs


def favors_smaller(method, other):
    """Tell whether the other method favors smaller parties, compared with the method."""
    check_methods(method, other)
    return favoring_pair(method, other) is not None


def favoring_votes(method, other):
    """Return votes and a house that show the favor of the other method, or None."""
    check_methods(method, other)
    pair = favoring_pair(method, other)
    if pair is None:
        return None
    return between_both(method, other, pair[0], pair[1])


def accepts_favoring(method, other, value):
    """Tell whether the value shows favor of the other method, compared with the method."""
    check_methods(method, other)
    if not is_question(value):
        return False
    votes = value[0]
    if votes[0] <= votes[1]:
        return False
    return min(first_shares(method, value)) > max(first_shares(other, value))


def favoring_pair(method, other):
    """Return the first pair of indexes at which the other method's quotient is greater, or None."""
    for one, behind in index_pairs(compared(method, other)):
        less = is_less(quotient(method, one, behind), quotient(other, one, behind))
        if behind < one and less:
            return (one, behind)
    return None
