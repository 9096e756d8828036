"""What results say of divisors, found in another way than the program does: with fractions."""

import itertools
import math
from fractions import Fraction

from support import has_key_by, plain_divisors, small_method

LAST = 9


def seen(results):
    """The conditions with the word "seen", in the order of their three numbers."""
    return [
        ("seen", number, one, other)
        for number, (votes, seats) in enumerate(results)
        for one in range(len(votes))
        for other in range(len(votes))
        if one != other and seats[one] >= 1
    ]


def conditions(results):
    return seen(results) + [("up", index) for index in range(LAST)]


def link(results, condition):
    """From where to where a condition leads, and its factor."""
    if condition[0] == "up":
        return condition[1], condition[1] + 1, Fraction(1)
    _, number, one, other = condition
    votes, seats = results[number]
    return seats[one] - 1, seats[other], Fraction(votes[one], votes[other])


def top(results):
    ends = [link(results, condition)[:2] for condition in seen(results)]
    return max([0] + [index for pair in ends for index in pair])


def closure(results):
    """The least products from index to index, one index after another let as a way between."""
    least = {(index, index): Fraction(1) for index in range(LAST + 1)}
    for condition in conditions(results):
        start, end, factor = link(results, condition)
        least[start, end] = min(factor, least.get((start, end), factor))
    for middle, start, end in itertools.product(range(LAST + 1), repeat=3):
        if (start, middle) in least and (middle, end) in least:
            product = least[start, middle] * least[middle, end]
            if (start, end) not in least or product < least[start, end]:
                least[start, end] = product
    return least


def has_round(results):
    least = closure(results)
    return any(least[index, index] < 1 for index in range(LAST + 1))


def fewest(results):
    """The least number of conditions of a round, or None: all ways around are gone."""
    least = {}
    for condition in conditions(results):
        start, end, factor = link(results, condition)
        least[start, end] = min(factor, least.get((start, end), factor))
    for many in range(1, 9):
        for first in range(8):
            for rest in itertools.permutations(range(first + 1, 8), many - 1):
                around = (first,) + rest + (first,)
                pairs = list(zip(around, around[1:]))
                if all(pair in least for pair in pairs):
                    product = Fraction(1)
                    for pair in pairs:
                        product *= least[pair]
                    if product < 1:
                        return many
    return None


def told(results):
    """The told divisors of point 44, if there is no round."""
    last = top(results)
    least = closure(results)
    row = [
        min(least[index, end] for end in range(last + 1) if (index, end) in least)
        for index in range(last + 1)
    ]
    times = math.lcm(*(item.denominator for item in row))
    whole = [int(item * times) for item in row]
    return tuple(item // math.gcd(*whole) for item in whole)


def are_divisors(value):
    if not isinstance(value, tuple) or len(value) not in range(1, 21):
        return False
    return all(type(item) is int and item > 0 for item in value) and list(value) == sorted(value)


def fits(results, value):
    """Whether the value is divisors that fit."""
    if not are_divisors(value):
        return False
    row = plain_divisors((value, 1), 20)
    return all(has_key_by(row, votes, seats) for votes, seats in results)


def walk(results, steps):
    """From where to where steps lead, and the product of their factors, or None."""
    known = conditions(results)
    if not isinstance(steps, tuple) or not 1 <= len(steps) <= 40:
        return None
    if not all(step in known for step in steps):
        return None
    links = [link(results, step) for step in steps]
    if any(one[1] != other[0] for one, other in zip(links, links[1:])):
        return None
    product = Fraction(1)
    for _, _, factor in links:
        product *= factor
    return links[0][0], links[-1][1], product


def is_round(results, steps):
    way = walk(results, steps)
    return way is not None and way[0] == way[1] and way[2] < 1


def is_evidence(results, value, word):
    """Whether the value is evidence of the word, or a round. Its integers are integers."""
    if len(value) != 2:
        return False
    if value[0] == word:
        return fits(results, value[1])
    return value[0] == "round" and is_round(results, value[1])


def given(chance, row, votes, house):
    """Seats that are given one after another by the divisors, and by chance where they let."""
    seats = [0] * len(votes)
    for _ in range(house if votes else 0):
        quotients = [Fraction(many, row[own]) for many, own in zip(votes, seats)]
        best = [party for party, item in enumerate(quotients) if item == max(quotients)]
        seats[chance.choice(best)] += 1
    return tuple(seats)


def moved(chance, seats):
    """The seats with one of them moved to a party by chance."""
    row = list(seats)
    owners = [party for party, own in enumerate(row) if own]
    if owners:
        row[chance.choice(owners)] -= 1
        row[chance.randrange(len(row))] += 1
    return tuple(row)


def some_results(chance, most=6, parties=5, house=8, votes=9):
    """Results of one method, of several ones, or of one with some seats moved."""
    row = plain_divisors(small_method(chance), 9)
    kind = chance.choice(("one", "several", "several", "moved"))
    results = []
    for _ in range(chance.randint(0, most)):
        if kind == "several":
            row = plain_divisors(small_method(chance), 9)
        many = tuple(chance.randint(1, votes) for _ in range(chance.randint(0, parties)))
        seats = given(chance, row, many, chance.randint(0, house))
        if kind == "moved" and chance.random() < 0.6:
            seats = moved(chance, moved(chance, seats))
        results.append((many, seats))
    return tuple(results)


def near_results(chance, most=6):
    """Results of two or three parties with nearly as many votes, and any seats.

    Often no divisors fit them, and their rounds have many conditions.
    """
    results = []
    for _ in range(chance.randint(1, most)):
        many = tuple(sorted(chance.randint(40, 60) for _ in range(chance.randint(2, 3))))[::-1]
        seats = [0] * len(many)
        for _ in range(chance.randint(1, 8)):
            seats[chance.choice((0, 0, 0, 1, -1))] += 1
        results.append((many, tuple(sorted(seats, reverse=True))))
    return tuple(results)
