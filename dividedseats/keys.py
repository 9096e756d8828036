"""Electoral keys: so many votes for a unit of divisor."""

from dividedseats.checks import check, is_less, is_ratio, is_row, lowest
from dividedseats.errors import TooLarge
from dividedseats.shares import (
    MOST_SEATS,
    check_seats,
    check_votes,
    seat_divisors,
    shows_wrong,
    told_wrong,
    wrong_pair,
)

GREATEST_KEY = 1000000000


def key_ends(method, votes, seats):
    """Return the least and the greatest key of the seats, or None if they are not valid."""
    check_seats(method, votes, seats)
    row = seat_divisors(method)
    if wrong_pair(row, votes, seats) is not None:
        return None
    following = [(many, row[own]) for many, own in zip(votes, seats)]
    last = [(many, row[own - 1]) for many, own in zip(votes, seats) if own > 0]
    return (greatest_of(following), least_of(last))


def accepts_key(method, votes, seats, value):
    """Tell whether the value is an electoral key of the seats."""
    check_seats(method, votes, seats)
    if not is_ratio(value):
        return False
    row = seat_divisors(method)
    return all(is_for_key(row, many, own, value) for many, own in zip(votes, seats))


def violation(method, votes, seats):
    """Return the told violation of the seats, or None if they are valid."""
    # The pairs that show that seats are not valid are just their violations.
    return told_wrong(method, votes, seats)


def accepts_violation(method, votes, seats, value):
    """Tell whether the value is a violation of the seats."""
    return shows_wrong(method, votes, seats, value)


def least_seats(method, votes, key):
    """Return the fewest seats of each party that have the key."""
    check_key(method, votes, key)
    p, q = key
    return seats_up_to(method, [(q * many - 1) // p for many in votes])


def most_seats(method, votes, key):
    """Return the most seats of each party that have the key."""
    check_key(method, votes, key)
    p, q = key
    return seats_up_to(method, [q * many // p for many in votes])


def check_key(method, votes, key):
    """Raise BadValue unless all three have the right form."""
    check_votes(method, votes)
    check(is_row(key, 1, GREATEST_KEY) and len(key) == 2, "key")


def is_for_key(row, many, own, key):
    """Tell whether the key lets a party with so many votes have its own seats."""
    p, q = key
    if q * many > p * row[own]:
        return False
    return own == 0 or q * many >= p * row[own - 1]


def seats_up_to(method, bounds):
    """Return for each party as many seats as divisors are not beyond its bound."""
    row = seat_divisors(method)
    seats = tuple([len([item for item in row if item <= bound]) for bound in bounds])
    # The row has more divisors than there may be seats, so those behind it need not be counted.
    if sum(seats) > MOST_SEATS:
        raise TooLarge("seats")
    return seats


def least_of(quotients):
    """Return the least quotient as a ratio, or None if there are none."""
    if not quotients:
        return None
    least = quotients[0]
    for item in quotients:
        if is_less(item, least):
            least = item
    return lowest(least[0], least[1])


def greatest_of(quotients):
    """Return the greatest quotient as a ratio, or None if there are none."""
    turned = least_of([(q, p) for p, q in quotients])
    return None if turned is None else (turned[1], turned[0])
