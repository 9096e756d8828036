"""Margins: how many votes more or less change the seats of a party.

The limit of a word is a number of seats: who gains has more of them then, and who loses has not.

A claim is a tuple (votes, party, limit, more, sure): that with these votes the party can have more
seats than the limit, or at most as many; or, if it is sure, that it must.
"""

from dividedseats.checks import check, divided_up, is_between, is_from, is_pair
from dividedseats.errors import NotPossible
from dividedseats.seating import changed, next_behind
from dividedseats.shares import (
    check_seats,
    divisions,
    is_seats,
    seat_divisors,
    surely_at_most,
    surely_more,
    wrong_pair,
)

WORDS = ("can gain", "must gain", "can lose", "must lose")
GAINS = ("can gain", "must gain")
MUSTS = ("must gain", "must lose")


def margin(method, votes, seats, party, word):
    """Return the margin, or None if there is none."""
    check_asked(method, votes, seats, party, word)
    check_right(method, votes, seats)
    return least_change(method, votes, seats, party, word)


def margin_evidence(method, votes, seats, party, word):
    """Return evidence for the margin, or None if there is none."""
    check_asked(method, votes, seats, party, word)
    check_right(method, votes, seats)
    many = least_change(method, votes, seats, party, word)
    if many is None:
        return None
    row = seat_divisors(method)
    house = sum(seats)
    limit = limit_of(seats[party], word)
    here = first_shown(row, claim_here(votes, party, limit, word, many), house)
    if many == 0:
        return (here, None)
    return (here, first_shown(row, claim_before(votes, party, limit, word, many), house))


def accepts_margin(method, votes, seats, party, word, many, value):
    """Tell whether the value is evidence that the margin is this number."""
    check_asked(method, votes, seats, party, word)
    check(is_from(many, 0), "many")
    check_right(method, votes, seats)
    limit = limit_of(seats[party], word)
    if limit < 0 or not is_pair(value):
        return False
    claim = claim_here(votes, party, limit, word, many)
    if claim[0][party] < 1:
        return False
    row = seat_divisors(method)
    house = sum(seats)
    here, before = value
    if not shows(row, claim, house, here):
        return False
    if many == 0:
        return before is None
    return shows(row, claim_before(votes, party, limit, word, many), house, before)


def check_asked(method, votes, seats, party, word):
    """Raise BadValue unless all five have the right form."""
    check_seats(method, votes, seats)
    check(is_between(party, 0, len(votes) - 1), "party")
    check(word in WORDS, "word")


def check_right(method, votes, seats):
    """Raise NotPossible unless the seats are valid."""
    if wrong_pair(seat_divisors(method), votes, seats) is not None:
        raise NotPossible("wrong")


def limit_of(own, word):
    """Return the limit of the word for a party with its own seats, -1 if it has none to lose."""
    return own if word in GAINS else own - 1


def least_change(method, votes, seats, party, word):
    """Return the margin, without checks, or None."""
    own = votes[party]
    rivals = votes[:party] + votes[party + 1:]
    limit = limit_of(seats[party], word)
    # So many seats the others have if the party is just at its limit.
    many = sum(seats) - limit
    if limit < 0 or many == 0 or len(rivals) == 0:
        return None
    row = seat_divisors(method)
    p, q = last_quotient(row, rivals, many)
    edge = edge_votes(word, p * row[limit], q)
    # As the seats are valid, the edge is not on the other side of its own votes.
    if word in GAINS:
        return edge - own
    return own - edge if edge > 0 else None


def last_quotient(row, votes, many):
    """Return the quotient of the last one of so many seats that are given to the parties."""
    seats = (0,) * len(votes)
    for _ in range(many - 1):
        seats = changed(seats, next_behind(row, votes, seats)[0], 1)
    party = next_behind(row, votes, seats)[0]
    return (votes[party], row[seats[party]])


def edge_votes(word, p, q):
    """Return the fewest votes to gain with, or the most ones to lose with.

    With p / q votes the seat beyond the limit has the same quotient as the one that is its rival.
    """
    if word == "can gain":
        return divided_up(p, q)
    if word == "must gain":
        return p // q + 1
    if word == "can lose":
        return p // q
    return divided_up(p, q) - 1


def claim_here(votes, party, limit, word, many):
    """Return the claim for the votes changed by so many: that the word is true."""
    gains = word in GAINS
    return (changed_votes(votes, party, word, many), party, limit, gains, word in MUSTS)


def claim_before(votes, party, limit, word, many):
    """Return the claim for the votes changed by one less: that the word is not true."""
    gains = word in GAINS
    return (changed_votes(votes, party, word, many - 1), party, limit, not gains, word not in MUSTS)


def changed_votes(votes, party, word, many):
    """Return the votes with so many more for a party to gain, or so many less for it to lose."""
    return changed(votes, party, many if word in GAINS else -many)


def shows(row, claim, house, value):
    """Tell whether the value is seats, as many together as the house, that show the claim."""
    return is_seats(value, claim[0]) and sum(value) == house and shows_by(row, claim, value)


def shows_by(row, claim, seats):
    """Tell whether the seats show the claim."""
    votes, party, limit, more, sure = claim
    if wrong_pair(row, votes, seats) is not None or more != (seats[party] > limit):
        return False
    if not sure:
        return True
    if more:
        return surely_more(row, votes, seats, party, limit)
    return surely_at_most(row, votes, seats, party, limit)


def first_shown(row, claim, house):
    """Return the first seats, as many together as the house, that show the claim."""
    ways = divisions(len(claim[0]), house)
    return [seats for seats in ways if shows_by(row, claim, seats)][0]
