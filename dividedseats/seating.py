"""Seats that are given one after another, and how many seats a party can have."""

from dividedseats.checks import is_row
from dividedseats.errors import NotPossible
from dividedseats.shares import (
    MOST_SEATS,
    check_house,
    check_seats,
    check_votes,
    seat_divisors,
    valid_seats,
    wrong_pair,
)


def next_parties(method, votes, seats):
    """Return the ascending tuple of the next parties behind the seats."""
    check_seats(method, votes, seats)
    return next_behind(seat_divisors(method), votes, seats)


def last_parties(method, votes, seats):
    """Return the ascending tuple of the last parties of valid seats."""
    check_seats(method, votes, seats)
    row = seat_divisors(method)
    if wrong_pair(row, votes, seats) is not None:
        raise NotPossible("seats")
    return tuple(party for party in range(len(votes)) if is_last(row, votes, seats, party))


def told_order(method, votes, house):
    """Return the giving order that always takes the first one of the next parties."""
    check_filled(method, votes, house)
    row = seat_divisors(method)
    seats = (0,) * len(votes)
    order = []
    for _ in range(house):
        party = next_behind(row, votes, seats)[0]
        order.append(party)
        seats = changed(seats, party, 1)
    return tuple(order)


def accepts_order(method, votes, value):
    """Tell whether the value is a giving order."""
    check_votes(method, votes)
    if not is_row(value, 0, len(votes) - 1) or len(value) > MOST_SEATS:
        return False
    row = seat_divisors(method)
    seats = (0,) * len(votes)
    for party in value:
        if party not in next_behind(row, votes, seats):
            return False
        seats = changed(seats, party, 1)
    return True


def bounds(method, votes, house):
    """Return for each party the fewest and the most seats that it has in valid seats."""
    check_filled(method, votes, house)
    found = valid_seats(method, votes, house)
    return tuple((min(column), max(column)) for column in zip(*found))


def check_filled(method, votes, house):
    """Raise an error unless all three have the right form, and somebody can take the seats."""
    check_house(method, votes, house)
    if house > 0 and len(votes) == 0:
        raise NotPossible("parties")


def next_behind(row, votes, seats):
    """Return the parties that, by the divisors, are next behind the seats."""
    return tuple(party for party in range(len(votes)) if is_next(row, votes, seats, party))


def is_next(row, votes, seats, party):
    """Tell whether no party has a greater quotient than this one."""
    return all(
        many * row[seats[party]] <= votes[party] * row[own] for many, own in zip(votes, seats)
    )


def is_last(row, votes, seats, party):
    """Tell whether the party can have been given the last one of the valid seats."""
    if seats[party] == 0:
        return False
    # As the seats are valid, the party is next behind those without its last one; but these need
    # not be valid, as somebody else can have a seat before which it should have had that one.
    return wrong_pair(row, votes, changed(seats, party, -1)) is None


def changed(seats, party, by):
    """Return the seats, or votes, with so many more, or fewer, for the party."""
    return seats[:party] + (seats[party] + by,) + seats[party + 1:]
