"""What is possible, and what is certain, behind results."""

from dividedseats.checks import check, is_between
from dividedseats.fitting import (
    check_results,
    is_evidence,
    least_links,
    told_evidence,
    ways_on,
    with_result,
)
from dividedseats.shares import MOST_SEATS, divisions, is_seats, is_votes


def possible(results, votes, house):
    """Return the list of all possible seats that are as many together as the house."""
    check_asked(results, votes, house)
    return possible_seats(results, votes, house)


def certain(results, votes, house):
    """Return the certain seats, or None if none are."""
    check_asked(results, votes, house)
    return certain_seats(results, votes, house)


def possible_evidence(results, votes, seats):
    """Return evidence that the seats are possible, or that they are not."""
    check_told(results, votes, seats)
    word, worth = told_evidence(results + ((votes, seats),))
    return ("possible" if word == "divisors" else word, worth)


def accepts_possible(results, votes, seats, value):
    """Tell whether the value is evidence that the seats are possible, or that they are not."""
    check_told(results, votes, seats)
    return is_evidence(results + ((votes, seats),), value, "possible")


def check_asked(results, votes, house):
    """Raise BadValue unless all three have the right form."""
    check_results(results)
    check(is_votes(votes), "votes")
    check(is_between(house, 0, MOST_SEATS), "house")


def check_told(results, votes, seats):
    """Raise BadValue unless all three have the right form."""
    check_results(results)
    check(is_votes(votes), "votes")
    check(is_seats(seats, votes), "seats")


def possible_seats(results, votes, house):
    """Return the possible seats, in their order."""
    links = least_links(results)
    if ways_on(links) is None:
        return []
    found = []
    for seats in divisions(len(votes), house):
        more = with_result(links, results + ((votes, seats),), len(results))
        if ways_on(more) is not None:
            found.append(seats)
    return found


def certain_seats(results, votes, house):
    """Return the certain seats, without checks, or None if none are."""
    found = possible_seats(results, votes, house)
    return found[0] if len(found) == 1 else None
