"""Results, the conditions that they set on divisors, and the divisors that fit them.

A link is a tuple (start, end, p, q) of a condition: q times the divisor with the index start is
at most p times the one with the index end.

A way is a tuple (p, q, steps): conditions one behind another, and the product of their factors.
"""

from itertools import permutations
from math import lcm

from dividedseats.checks import check, is_between, is_from, is_less, is_pair, lowest
from dividedseats.shares import MOST_SEATS, is_seats, is_votes, wrong_pair

MOST_RESULTS = 6
MOST_TOLD = 20
LAST_UP = 8
MOST_STEPS = 40
LONGEST_ROUND = 8

# Ways are looked for among the indexes from 0 to 8. No condition leads on from the index 9, and
# only ("up", 8) leads to it, so a way to it is no less than the same way without its last step.
INDEXES = 9


def is_result(value):
    """Tell whether the value is a pair of votes and of seats for them."""
    return is_pair(value) and is_votes(value[0]) and is_seats(value[1], value[0])


def are_results(value):
    """Tell whether the value is results."""
    if not isinstance(value, tuple) or len(value) > MOST_RESULTS:
        return False
    return all(is_result(item) for item in value)


def can_fit(results):
    """Tell whether some divisors fit the results."""
    check_results(results)
    return some_fit(results)


def fit_evidence(results):
    """Return the told evidence that some divisors fit the results, or that none do."""
    check_results(results)
    return told_evidence(results)


def accepts_fit(results, value):
    """Tell whether the value is evidence that some divisors fit, or that none do."""
    check_results(results)
    return is_evidence(results, value, "divisors")


def wrong_in(results, divisors):
    """Return the first triple of a condition that does not hold for the divisors, or None."""
    check_results(results)
    check(are_divisors(divisors), "divisors")
    return first_wrong(results, divisors)


def check_results(results):
    """Raise BadValue unless it is results."""
    check(are_results(results), "results")


def are_divisors(value):
    """Tell whether the value is a tuple of 1 to 20 divisors, none less than the one before."""
    if not isinstance(value, tuple) or not 1 <= len(value) <= MOST_TOLD:
        return False
    if not all(is_from(item, 1) for item in value):
        return False
    return all(low <= high for low, high in zip(value, value[1:]))


def first_wrong(results, divisors):
    """Return the first result, with two parties, that does not let the divisors be, or None."""
    row = seat_row(divisors)
    for number, (votes, seats) in enumerate(results):
        pair = wrong_pair(row, votes, seats)
        if pair is not None:
            return (number, pair[0], pair[1])
    return None


def seat_row(divisors):
    """Return the divisors for each number of seats that a party can have."""
    row = list(divisors)
    while len(row) <= MOST_SEATS:
        row.append(row[-1] + 1)
    return row


def are_fitting(results, value):
    """Tell whether the value is divisors that fit the results."""
    return are_divisors(value) and first_wrong(results, value) is None


def some_fit(results):
    """Tell whether some divisors fit the results, without checks."""
    return ways_on(least_links(results)) is not None


def told_evidence(results):
    """Return the told evidence, of any number of results."""
    links = least_links(results)
    ways = ways_on(links)
    if ways is None:
        return ("round", shortest_round(links))
    return ("divisors", whole_products(ways, top_of(results) + 1))


def is_evidence(results, value, word):
    """Tell whether the value is the word with divisors that fit, or "round" with a round."""
    if not is_pair(value):
        return False
    if value[0] == word:
        return are_fitting(results, value[1])
    return value[0] == "round" and is_round(results, value[1])


def seen_conditions(number, result):
    """Return the list of the conditions of the result that has this number."""
    votes, seats = result
    return [
        ("seen", number, one, other)
        for one, other in permutations(range(len(votes)), 2)
        if seats[one] > 0
    ]


def all_conditions(results):
    """Return the list of all conditions of the results."""
    found = [("up", index) for index in range(LAST_UP + 1)]
    for number, result in enumerate(results):
        found.extend(seen_conditions(number, result))
    return found


def is_condition(results, value):
    """Tell whether the value is a condition of the results."""
    if not isinstance(value, tuple) or len(value) == 0:
        return False
    if value[0] == "up":
        return len(value) == 2 and is_between(value[1], 0, LAST_UP)
    return value[0] == "seen" and len(value) == 4 and is_seen(results, value)


def is_seen(results, value):
    """Tell whether a result has two such parties, of which the first one has a seat."""
    _, number, one, other = value
    if not is_between(number, 0, len(results) - 1):
        return False
    votes, seats = results[number]
    last = len(votes) - 1
    if not is_between(one, 0, last) or not is_between(other, 0, last):
        return False
    return one != other and seats[one] > 0


def link_of(results, condition):
    """Return the link of a condition of the results."""
    if condition[0] == "up":
        return (condition[1], condition[1] + 1, 1, 1)
    _, number, one, other = condition
    votes, seats = results[number]
    return (seats[one] - 1, seats[other], votes[one], votes[other])


def way_of(results, value):
    """Return one link for 1 to 40 conditions one behind another, or None for another value."""
    if not isinstance(value, tuple) or not 1 <= len(value) <= MOST_STEPS:
        return None
    if not all(is_condition(results, step) for step in value):
        return None
    start, end, p, q = link_of(results, value[0])
    for step in value[1:]:
        begin, goal, more, less = link_of(results, step)
        if begin != end:
            return None
        end = goal
        p *= more
        q *= less
    return (start, end, p, q)


def is_round(results, value):
    """Tell whether the value is a round of the results."""
    way = way_of(results, value)
    if way is None:
        return False
    start, end, p, q = way
    return start == end and p < q


def top_of(results):
    """Return the greatest index from or to which a condition with the word "seen" leads."""
    top = 0
    for number, result in enumerate(results):
        for condition in seen_conditions(number, result):
            start, end, _, _ = link_of(results, condition)
            top = max(top, start, end)
    return top


def least_links(results):
    """Return, by its two indexes, the least one of the conditions from one index to another."""
    links = {(index, index + 1): (1, 1, (("up", index),)) for index in range(INDEXES - 1)}
    for number in range(len(results)):
        links = with_result(links, results, number)
    return links


def with_result(links, results, number):
    """Return the least links with the conditions of one more of the results."""
    more = {key: links[key] for key in links}
    for condition in seen_conditions(number, results[number]):
        start, end, p, q = link_of(results, condition)
        put_least(more, (start, end), (p, q, (condition,)))
    return more


def put_least(ways, key, way):
    """Put the way there unless one as short stands there, and tell whether it was put."""
    if key in ways and not is_less(way, ways[key]):
        return False
    ways[key] = way
    return True


def joined(way, behind):
    """Return the way with the other one behind it."""
    return (way[0] * behind[0], way[1] * behind[1], way[2] + behind[2])


def least_ways(links, goals):
    """Return, by its first index, the least way to any of the goals, or None beside a round.

    A round from which no goal can be reached does not count.
    """
    ways = {goal: (1, 1, ()) for goal in goals}
    # Without a round no least way has an index twice, so the last pass changes nothing.
    for _ in range(INDEXES):
        settled = True
        for (start, end), link in links.items():
            if end in ways and put_least(ways, start, joined(link, ways[end])):
                settled = False
        if settled:
            return ways
    return None


def ways_on(links):
    """Return, by its first index, the least way that leads anywhere, or None if there is a round."""
    return least_ways(links, list(range(INDEXES)))


def whole_products(ways, many):
    """Return the products of the ways from so many first indexes, as integers in their ratio."""
    # They ascend, and one of them is 1, as a least way cannot go on where it ends.
    return whole_row([ways[index] for index in range(many)])


def shortest_round(links):
    """Return a round with as few conditions as any, or None if there is none."""
    ways = links
    for _ in range(LONGEST_ROUND):
        for index in range(INDEXES):
            if (index, index) in ways and is_less(ways[(index, index)], (1, 1)):
                return ways[(index, index)][2]
        ways = longer(ways, links)
    return None


def longer(ways, links):
    """Return the least ways between two indexes that have one condition more than these."""
    more = {}
    for (start, middle), way in ways.items():
        for (begin, end), link in links.items():
            if begin == middle:
                put_least(more, (start, end), joined(way, link))
    return more


def whole_row(fractions):
    """Return the fractions, all multiplied by the least number that makes them integers.

    If one of them is 1, they have no common divisor greater than 1.
    """
    ratios = [lowest(fraction[0], fraction[1]) for fraction in fractions]
    scale = 1
    for _, q in ratios:
        scale = lcm(scale, q)
    return tuple(p * (scale // q) for p, q in ratios)
