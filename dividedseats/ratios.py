"""The greatest ratio of one divisor to another one, behind results."""

from dividedseats.checks import check, is_between, is_ratio, is_row, lowest
from dividedseats.errors import NotPossible
from dividedseats.fitting import (
    INDEXES,
    all_conditions,
    are_fitting,
    check_results,
    least_links,
    least_ways,
    link_of,
    way_of,
    ways_on,
    whole_products,
    whole_row,
)


def greatest_ratio(results, one, other):
    """Return the greatest ratio of the one divisor to the other one, or None."""
    links = checked_links(results, one, other)
    ways = least_ways(links, [other])
    if one not in ways:
        return None
    p, q, _ = ways[one]
    return lowest(p, q)


def ratio_evidence(results, one, other):
    """Return evidence for the greatest ratio, or that there is none."""
    links = checked_links(results, one, other)
    ways = least_ways(links, [other])
    row = whole_products(ways_on(links), INDEXES)
    if one in ways:
        return ("most", ways[one][2], greatest_row(ways, row))
    return ("none", reached_from(links, one), row)


def accepts_ratio(results, one, other, ratio, value):
    """Tell whether the value is evidence that this is the greatest ratio, or None for none."""
    checked_links(results, one, other)
    if not isinstance(value, tuple) or len(value) != 3:
        return False
    word, told, divisors = value
    if not are_fitting(results, divisors):
        return False
    if ratio is None:
        return word == "none" and is_closed(results, one, other, told)
    if word != "most" or not have_ratio(divisors, one, other, ratio):
        return False
    return leads_by(results, one, other, told, ratio)


def checked_links(results, one, other):
    """Return the least links. Raise an error for wrong arguments, or if no divisors fit."""
    check_results(results)
    check(is_between(one, 0, INDEXES - 1), "one")
    check(is_between(other, 0, INDEXES - 1), "other")
    links = least_links(results)
    if ways_on(links) is None:
        raise NotPossible("round")
    return links


def greatest_row(ways, row):
    """Return divisors that fit, each with the greatest ratio to the goal of the ways.

    The row has divisors that fit. Where no way begins, they are taken, but so much greater that
    no condition that leads there from where a way begins can fail.
    """
    times = 1 + max([p // q for p, q, _ in ways.values()])
    return whole_row([
        ways[index] if index in ways else (times * row[index], 1) for index in range(INDEXES)
    ])


def have_ratio(divisors, one, other, ratio):
    """Tell whether the divisors, told up to the last index, have this ratio in lowest terms."""
    if not is_ratio(ratio) or lowest(ratio[0], ratio[1]) != ratio or len(divisors) < INDEXES:
        return False
    return ratio[1] * divisors[one] == ratio[0] * divisors[other]


def reached_from(links, one):
    """Return the indexes to which conditions lead from the one, itself among them."""
    low = one
    # From each index conditions lead to all greater ones, so the least one tells them all.
    for _ in range(INDEXES):
        low = min([low] + [end for start, end in links if start >= low])
    return tuple(range(low, INDEXES + 1))


def is_closed(results, one, other, chosen):
    """Tell whether the chosen indexes have the one, not the other, and no condition leads out."""
    if not is_row(chosen, 0, INDEXES) or not is_ascending(chosen):
        return False
    if one not in chosen or other in chosen:
        return False
    links = [link_of(results, condition) for condition in all_conditions(results)]
    return all(start not in chosen or end in chosen for start, end, _, _ in links)


def is_ascending(row):
    """Tell whether each item is greater than the one before it."""
    return all(low < high for low, high in zip(row, row[1:]))


def leads_by(results, one, other, steps, ratio):
    """Tell whether the steps lead from the one index to the other, and their product is the ratio."""
    way = (one, one, 1, 1) if steps == () else way_of(results, steps)
    if way is None:
        return False
    start, end, p, q = way
    return start == one and end == other and p * ratio[1] == ratio[0] * q
