"""Parties that merge, and seats that they lose or gain so."""

from itertools import permutations

from dividedseats.checks import check, is_between, is_row
from dividedseats.methods import divisor_at, divisors, index_pairs, is_method
from dividedseats.shares import (
    MOST_PARTIES,
    check_seats,
    divisions,
    is_votes,
    seat_divisors,
    surely_at_most,
    surely_more,
    wrong_pair,
)

MOST_GREAT_VOTES = 1000000000
MOST_GREAT_SEATS = 14


def merged_votes(votes, one, other):
    """Return the votes with those of both parties in the place of the earlier one."""
    check(is_votes(votes), "votes")
    check(is_between(one, 0, len(votes) - 1), "one")
    check(is_between(other, one + 1, len(votes) - 1), "other")
    return merged(votes, one, other)


def is_alone(method, votes, seats):
    """Tell whether the seats are valid, and no other seats of as many together are."""
    check_seats(method, votes, seats)
    return are_alone(seat_divisors(method), votes, seats)


def first_short_pair(method):
    """Return the first short pair, or None if there is none."""
    check(is_method(method), "method")
    for one, other in index_pairs(len(method[0])):
        if shortage(method, one, other) > 0:
            return (one, other)
    return None


def told_loss(method):
    """Return the told loss, or None if the method has no short pair."""
    pair = first_short_pair(method)
    if pair is None:
        return None
    one = last_alike(method, pair[0])
    other = last_alike(method, pair[1])
    first = divisor_at(method, 0)
    room = divisor_at(method, one + other + 1) // first
    times = max(2, (room + 2) // shortage(method, one, other) + 1)
    votes = (
        times * divisor_at(method, one) + 1,
        times * divisor_at(method, other) + 1,
        times * first - 1,
    )
    seats = (one + 1, other + 1, 0)
    return (votes, 0, 1, seats, first_valid(method, merged(votes, 0, 1), sum(seats)))


def told_gain(method):
    """Return the told gain."""
    check(is_method(method), "method")
    many = 4 * divisor_at(method, 0)
    return ((many - 1, many - 1, many + 1), 0, 1, (0, 0, 1), (1, 0))


def is_loss(method, value):
    """Tell whether the value is a loss of the method."""
    check(is_method(method), "method")
    row = great_divisors(method)
    if not is_merger(row, value) or change_of(value) >= 0:
        return False
    votes, one, other, _, later = value
    return surely_at_most(row, merged(votes, one, other), later, one, later[one])


def is_gain(method, value):
    """Tell whether the value is a gain of the method."""
    check(is_method(method), "method")
    row = great_divisors(method)
    if not is_merger(row, value) or change_of(value) <= 0:
        return False
    votes, one, other, _, later = value
    return surely_more(row, merged(votes, one, other), later, one, later[one] - 1)


def merged(votes, one, other):
    """Return the merged votes, without checks."""
    both = votes[one] + votes[other]
    return votes[:one] + (both,) + votes[one + 1:other] + votes[other + 1:]


def shortage(method, one, other):
    """Return by how much two divisors are together less than that of the seats of both."""
    both = divisor_at(method, one) + divisor_at(method, other)
    return divisor_at(method, one + other + 1) - both


def last_alike(method, index):
    """Return the greatest index with the same divisor."""
    while divisor_at(method, index + 1) == divisor_at(method, index):
        index += 1
    return index


def great_divisors(method):
    """Return the divisors for each number of great seats that a party can have."""
    return divisors(method, MOST_GREAT_SEATS + 1)


def first_valid(method, votes, house):
    """Return the first valid seats, as many together as the house."""
    row = great_divisors(method)
    ways = divisions(len(votes), house)
    return [seats for seats in ways if wrong_pair(row, votes, seats) is None][0]


def are_alone(row, votes, seats):
    """Tell whether, by the divisors, no seat could as well be another party's."""
    for one, other in permutations(range(len(votes)), 2):
        own = seats[one]
        if own > 0 and votes[other] * row[own - 1] >= votes[one] * row[seats[other]]:
            return False
    return True


def are_great_votes(value):
    """Tell whether the value is great votes."""
    return is_row(value, 1, MOST_GREAT_VOTES) and 1 <= len(value) <= MOST_PARTIES


def are_great_seats(value, many):
    """Tell whether the value is great seats for so many parties."""
    if not is_row(value, 0, MOST_GREAT_SEATS):
        return False
    return len(value) == many and sum(value) <= MOST_GREAT_SEATS


def is_merger(row, value):
    """Tell whether the value is seats that are alone, and valid ones behind a merger."""
    if not has_form(value):
        return False
    votes, one, other, seats, later = value
    if not are_alone(row, votes, seats):
        return False
    return wrong_pair(row, merged(votes, one, other), later) is None


def has_form(value):
    """Tell whether the value has the form of a loss or a gain."""
    if not isinstance(value, tuple) or len(value) != 5:
        return False
    votes, one, other, seats, later = value
    if not are_great_votes(votes) or not is_between(other, 1, len(votes) - 1):
        return False
    if not is_between(one, 0, other - 1):
        return False
    if not are_great_seats(seats, len(votes)) or not are_great_seats(later, len(votes) - 1):
        return False
    return sum(seats) == sum(later)


def change_of(value):
    """Return how many seats the merged party has more than both had."""
    _, one, other, seats, later = value
    return later[one] - seats[one] - seats[other]
