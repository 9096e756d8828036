"""Quotas: the shares of the seats that are due to parties by their votes.

Inside the program a quota is a pair (p, q) that can have a common divisor.
"""

from dividedseats.checks import check, lowest
from dividedseats.seating import changed
from dividedseats.shares import is_seats, is_votes


def quotas(votes, seats):
    """Return the tuple of the quotas, without common divisors."""
    check_shares(votes, seats)
    return tuple(lowest(p, q) for p, q in all_quotas(votes, seats))


def below_quota(votes, seats):
    """Return the ascending tuple of the parties that are below quota."""
    check_shares(votes, seats)
    told = all_quotas(votes, seats)
    return tuple(party for party in range(len(votes)) if is_below(told[party], seats[party]))


def above_quota(votes, seats):
    """Return the ascending tuple of the parties that are above quota."""
    check_shares(votes, seats)
    told = all_quotas(votes, seats)
    return tuple(party for party in range(len(votes)) if is_above(told[party], seats[party]))


def first_transfer(votes, seats):
    """Return the first transfer that brings two parties nearer to their quotas, or None."""
    check_shares(votes, seats)
    return transfer(votes, seats)


def nearest_seats(votes, seats):
    """Return the seats behind which there is no transfer, one first transfer behind another."""
    check_shares(votes, seats)
    pair = transfer(votes, seats)
    while pair is not None:
        one, other = pair
        seats = changed(changed(seats, one, -1), other, 1)
        pair = transfer(votes, seats)
    return seats


def check_shares(votes, seats):
    """Raise BadValue unless both have the right form."""
    check(is_votes(votes), "votes")
    check(is_seats(seats, votes), "seats")


def all_quotas(votes, seats):
    """Return the list of the quotas."""
    house = sum(seats)
    together = sum(votes)
    return [(many * house, together) for many in votes]


def is_below(quota, own):
    """Tell whether a party with this quota and its own seats is below quota."""
    p, q = quota
    return p >= (own + 1) * q


def is_above(quota, own):
    """Tell whether a party with this quota and its own seats is above quota."""
    p, q = quota
    return own > 0 and p <= (own - 1) * q


def can_give(quota, own):
    """Tell whether a party with this quota comes nearer to it with a seat less."""
    p, q = quota
    return own > 0 and 2 * p < (2 * own - 1) * q


def can_take(quota, own):
    """Tell whether a party with this quota comes nearer to it with a seat more."""
    p, q = quota
    return 2 * p > (2 * own + 1) * q


def transfer(votes, seats):
    """Return the first transfer, without checks, or None."""
    told = all_quotas(votes, seats)
    givers = [party for party in range(len(votes)) if can_give(told[party], seats[party])]
    takers = [party for party in range(len(votes)) if can_take(told[party], seats[party])]
    # Nobody stands in both lists.
    if not givers or not takers:
        return None
    return (givers[0], takers[0])
