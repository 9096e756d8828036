"""Votes, seats, and which seats are valid for a method."""

from itertools import permutations

from dividedseats.checks import check, is_between, is_row
from dividedseats.methods import divisors, is_method

MOST_PARTIES = 5
MOST_VOTES = 1000000
MOST_SEATS = 8


def is_votes(value):
    """Tell whether the value is votes."""
    return is_row(value, 1, MOST_VOTES) and len(value) <= MOST_PARTIES


def is_seats(value, votes):
    """Tell whether the value is seats for the votes, which are not checked."""
    if not is_row(value, 0, MOST_SEATS):
        return False
    return len(value) == len(votes) and sum(value) <= MOST_SEATS


def is_valid(method, votes, seats):
    """Tell whether the seats are valid."""
    check_seats(method, votes, seats)
    return wrong_pair(seat_divisors(method), votes, seats) is None


def told_wrong(method, votes, seats):
    """Return the first pair that shows that the seats are not valid, or None."""
    check_seats(method, votes, seats)
    return wrong_pair(seat_divisors(method), votes, seats)


def shows_wrong(method, votes, seats, value):
    """Tell whether the value is a pair of parties that shows that the seats are not valid."""
    check_seats(method, votes, seats)
    if not is_row(value, 0, len(votes) - 1) or len(value) != 2:
        return False
    one, other = value
    return one != other and is_claimed(seat_divisors(method), votes, seats, one, other)


def count_valid(method, votes, house):
    """Return the number of the valid seats of the house."""
    check_house(method, votes, house)
    return len(valid_seats(method, votes, house))


def nth_valid(method, votes, house, index):
    """Return the valid seats of the house with the index."""
    check_house(method, votes, house)
    found = valid_seats(method, votes, house)
    check(is_between(index, 0, len(found) - 1), "index")
    return found[index]


def index_of_valid(method, votes, seats):
    """Return the index of the seats among the valid ones of their house, or None."""
    check_seats(method, votes, seats)
    for index, found in enumerate(valid_seats(method, votes, sum(seats))):
        if found == seats:
            return index
    return None


def check_votes(method, votes):
    """Raise BadValue unless both have the right form."""
    check(is_method(method), "method")
    check(is_votes(votes), "votes")


def check_seats(method, votes, seats):
    """Raise BadValue unless all three have the right form."""
    check_votes(method, votes)
    check(is_seats(seats, votes), "seats")


def check_house(method, votes, house):
    """Raise BadValue unless all three have the right form."""
    check_votes(method, votes)
    check(is_between(house, 0, MOST_SEATS), "house")


def seat_divisors(method):
    """Return the divisors for each number of seats that a party can have."""
    return divisors(method, MOST_SEATS + 1)


def is_claimed(row, votes, seats, one, other):
    """Tell whether, by the divisors, one party has a seat that the other should have had."""
    if seats[one] == 0:
        return False
    return votes[other] * row[seats[one] - 1] > votes[one] * row[seats[other]]


def wrong_pair(row, votes, seats):
    """Return the first pair of parties of which one has what the other should have, or None."""
    for one, other in permutations(range(len(votes)), 2):
        if is_claimed(row, votes, seats, one, other):
            return (one, other)
    return None


def surely_more(row, votes, seats, party, many):
    """Tell whether valid seats that give the party more than so many show that all do."""
    for other in range(len(votes)):
        if other == party:
            continue
        if votes[party] * row[seats[other]] <= votes[other] * row[many]:
            return False
    return True


def surely_at_most(row, votes, seats, party, many):
    """Tell whether valid seats that give the party at most so many show that all do."""
    for other in range(len(votes)):
        if other == party or seats[other] == 0:
            continue
        if votes[party] * row[seats[other] - 1] >= votes[other] * row[many]:
            return False
    return True


def divisions(parties, house):
    """Return all ways to divide the house, those first that give more to earlier parties."""
    if parties == 0:
        return [()] if house == 0 else []
    found = []
    for own in range(house, -1, -1):
        for rest in divisions(parties - 1, house - own):
            found.append((own,) + rest)
    return found


def valid_seats(method, votes, house):
    """Return the list of the valid seats of the house, in their order."""
    row = seat_divisors(method)
    ways = divisions(len(votes), house)
    return [seats for seats in ways if wrong_pair(row, votes, seats) is None]
