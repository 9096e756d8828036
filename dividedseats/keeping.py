"""Methods that go below or above quotas, or do not always come near to them."""

from dividedseats.checks import check, divided_up, is_between, is_from, is_pair, is_ratio
from dividedseats.methods import divisor_at, is_method
from dividedseats.quotas import can_give, can_take, is_above, is_below
from dividedseats.shares import wrong_pair

MOST_SHOWN = 100

# By how much each divisor is greater than the one before it, if the first one is 1.
STEP_OF_QUOTAS = 1
STEP_OF_NEAREST = 2


def goes_below(method):
    """Tell whether the method goes below quotas."""
    check(is_method(method), "method")
    return first_other(method, STEP_OF_QUOTAS) is not None


def is_always_near(method):
    """Tell whether nothing shows that the method is not always near."""
    check(is_method(method), "method")
    return first_other(method, STEP_OF_NEAREST) is None


def below_evidence(method):
    """Return evidence that the method goes below quotas, or None if there is none."""
    check(is_method(method), "method")
    index = first_other(method, STEP_OF_QUOTAS)
    if index is None:
        return None
    first = divisor_at(method, 0)
    own = divisor_at(method, index)
    gap = own - (index + 1) * first
    # The one party and each of the others have the same claim to one more seat of the other, and
    # so many others are enough to make the quota of the one great by it.
    if gap > 0:
        return (own, divided_up(own, gap), first, index, 1)
    return (first, divided_up(first, -gap), own, 0, index + 1)


def above_evidence(method):
    """Return evidence that the method goes above quotas."""
    check(is_method(method), "method")
    first = divisor_at(method, 0)
    second = divisor_at(method, 1)
    # The others have no seat, and together as many votes as the one party, or more.
    return (second, divided_up(second, first), first, 2, 0)


def near_evidence(method):
    """Return evidence that the method is not always near, or None if there is none."""
    check(is_method(method), "method")
    index = first_other(method, STEP_OF_NEAREST)
    if index is None:
        return None
    first = divisor_at(method, 0)
    own = divisor_at(method, index)
    if own < (2 * index + 1) * first:
        return ((own, first), (index + 1, 0))
    return ((first, own), (1, index))


def accepts_below(method, value):
    """Tell whether the value is evidence that the method goes below quotas."""
    check(is_method(method), "method")
    if not is_one_against_many(value) or not is_valid_against(method, value):
        return False
    return is_below(quota_against(value), value[3])


def accepts_above(method, value):
    """Tell whether the value is evidence that the method goes above quotas."""
    check(is_method(method), "method")
    if not is_one_against_many(value) or not is_valid_against(method, value):
        return False
    return is_above(quota_against(value), value[3])


def accepts_not_near(method, value):
    """Tell whether the value is evidence that the method is not always near."""
    check(is_method(method), "method")
    if not is_pair(value) or not is_ratio(value[0]) or not is_pair_of_seats(value[1]):
        return False
    votes, seats = value
    if not are_valid_two(method, votes, seats):
        return False
    house = sum(seats)
    together = sum(votes)
    gives = can_give((votes[0] * house, together), seats[0])
    return gives and can_take((votes[1] * house, together), seats[1])


def first_other(method, step):
    """Return the first index at which the divisors are not as 1, 1 + step and so on, or None."""
    first = divisor_at(method, 0)
    # One index behind the firsts tells about the step of the method.
    for index in range(len(method[0]) + 1):
        if divisor_at(method, index) != (1 + index * step) * first:
            return index
    return None


def is_pair_of_seats(value):
    """Tell whether the value is a pair of numbers of seats."""
    return is_pair(value) and all(is_between(own, 0, MOST_SHOWN) for own in value)


def is_one_against_many(value):
    """Tell whether the value has the form of one against many."""
    if not isinstance(value, tuple) or len(value) != 5:
        return False
    return all(is_from(many, 1) for many in value[:3]) and is_pair_of_seats(value[3:])


def is_valid_against(method, value):
    """Tell whether the seats of one against many are valid."""
    votes, _, other, seats, each = value
    # All others have the same votes and seats, so it is enough to look at one of them.
    return are_valid_two(method, (votes, other), (seats, each))


def quota_against(value):
    """Return the quota of the one party against many."""
    votes, many, other, seats, each = value
    return (votes * (seats + many * each), votes + many * other)


def are_valid_two(method, votes, seats):
    """Tell whether the seats of two parties, of whatever number, are valid."""
    row = [divisor_at(method, index) for index in range(max(seats) + 1)]
    return wrong_pair(row, votes, seats) is None
