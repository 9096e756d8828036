"""Points 69 to 73: methods that favor smaller parties."""

import itertools
import random
import unittest
from fractions import Fraction

from dividedseats.comparing import are_equivalent
from dividedseats.favors import accepts_favoring, favoring_votes, favors_smaller
from dividedseats.methods import multiplied
from support import (
    HONDT,
    LAGUE,
    MODIFIED,
    WRONG_METHODS,
    Checks,
    plain_divisors,
    small_method,
    small_methods,
)
from two_parties import NO_QUESTIONS, first_shares, index_pairs, is_question, simplest, span

LATE = ((1, 2, 3, 4, 5, 6), 7)
EDGES = (
    HONDT,
    LAGUE,
    MODIFIED,
    LATE,
    ((1, 2, 3, 4, 5, 6), 1),
    ((1,) * 6, 1),
    ((1,), 1000),
    ((1000,), 1),
    ((1000,), 1000),
    ((1000,) * 6, 1000),
    ((1, 1000), 1000),
    ((5, 5, 9), 3),
    ((1, 5), 1),
)

BOTH = [("method", HONDT, WRONG_METHODS), ("other", LAGUE, WRONG_METHODS)]


def greater_pairs(first, second, many):
    """The pairs of indexes of point 69 below the number."""
    one, two = plain_divisors(first, many), plain_divisors(second, many)
    return [
        (a, b)
        for a, b in index_pairs(many)
        if b < a and Fraction(two[a], two[b]) > Fraction(one[a], one[b])
    ]


def plain_favoring(first, second):
    """The favoring votes, in another way."""
    pairs = greater_pairs(first, second, span(first, second))
    if not pairs:
        return None
    a, b = pairs[0]
    one, two = plain_divisors(first, 16), plain_divisors(second, 16)
    return simplest(Fraction(one[a], one[b]), Fraction(two[a], two[b])), a + b + 1


def shows(first, second, value):
    """Point 70, in another way. The integers of the value are integers."""
    if not is_question(value) or value[0][0] <= value[0][1]:
        return False
    ours, theirs = first_shares(first, *value), first_shares(second, *value)
    return all(one > other for one in ours for other in theirs)


class ExampleTest(Checks, unittest.TestCase):
    def test_of_the_interface(self):
        self.assert_exactly(favors_smaller(HONDT, LAGUE), True)
        self.assert_exactly(favors_smaller(LAGUE, HONDT), False)
        self.assert_exactly(favoring_votes(HONDT, LAGUE), ((5, 2), 2))
        self.assert_exactly(accepts_favoring(HONDT, LAGUE, ((5, 2), 2)), True)
        self.assert_exactly(favoring_votes(((1, 5), 1), LAGUE), ((3, 2), 4))
        self.assert_exactly(favoring_votes(LAGUE, ((1, 5), 1)), ((4, 1), 2))

    def test_of_point_73(self):
        self.assert_exactly(favoring_votes(HONDT, LAGUE), ((5, 2), 2))
        self.assert_exactly(favoring_votes(LAGUE, HONDT), None)
        self.assert_exactly(accepts_favoring(LAGUE, HONDT, ((5, 2), 2)), False)


class FavorTest(Checks, unittest.TestCase):
    def assert_right(self, first, second):
        told = favoring_votes(first, second)
        self.assert_exactly(told, plain_favoring(first, second))
        favored = bool(greater_pairs(first, second, 16))
        self.assert_exactly(favors_smaller(first, second), favored)
        self.assertEqual(told is not None, favored)
        if told is not None:
            self.assertGreater(told[0][0], told[0][1])
            self.assert_exactly(accepts_favoring(first, second, told), True)
            self.assert_exactly(accepts_favoring(second, first, told), False)
            self.assert_exactly(shows(first, second, told), True)

    def test_all_small_ones(self):
        for first, second in itertools.product(small_methods(3, 3), repeat=2):
            self.assert_right(first, second)

    def test_edges(self):
        for first, second in itertools.product(EDGES, repeat=2):
            self.assert_right(first, second)

    def test_great_divisors(self):
        chance = random.Random(70)
        for _ in range(150):
            pair = []
            for _ in range(2):
                firsts = sorted(chance.randint(1, 1000) for _ in range(chance.randint(1, 6)))
                pair.append((tuple(firsts), chance.randint(1, 1000)))
            self.assert_right(*pair)

    def test_late_ones(self):
        # Only the steps behind six equal firsts are different.
        first, second = ((1, 2, 3, 4, 5, 6), 2), LATE
        self.assert_exactly(favors_smaller(first, second), True)
        self.assert_exactly(favors_smaller(second, first), False)
        self.assert_exactly(favoring_votes(first, second)[1], 7)

    def test_itself_and_equivalent_ones(self):
        # Point 71.
        chance = random.Random(71)
        for method in EDGES + tuple(small_method(chance) for _ in range(40)):
            self.assert_exactly(favors_smaller(method, method), False)
            self.assert_exactly(favoring_votes(method, method), None)
        for _ in range(40):
            method = small_method(chance)
            same = multiplied(method, chance.randint(1, 9))
            self.assert_exactly(favors_smaller(method, same), False)
            self.assert_exactly(favors_smaller(same, method), False)

    def test_third_ones(self):
        # Point 71: what does not hold of two pairs does not hold of the third one.
        methods = small_methods(3, 2)
        favored = {pair: favors_smaller(*pair) for pair in itertools.product(methods, repeat=2)}
        for first, second, third in itertools.product(methods, repeat=3):
            if not favored[first, second] and not favored[second, third]:
                self.assertFalse(favored[first, third])

    def test_neither_one(self):
        # Point 71.
        both = 0
        for first, second in itertools.product(small_methods(3, 3), repeat=2):
            one, other = favors_smaller(first, second), favors_smaller(second, first)
            self.assertEqual(not one and not other, are_equivalent(first, second))
            both += one and other
        self.assertGreater(both, 0)

    def test_wrong_arguments(self):
        self.assert_checked(favors_smaller, BOTH)
        self.assert_checked(favoring_votes, BOTH)
        self.assert_checked(accepts_favoring, BOTH + [("value", ((5, 2), 2), None)])


class JudgeTest(Checks, unittest.TestCase):
    def test_other_votes(self):
        chance = random.Random(72)
        met = 0
        for _ in range(500):
            first, second = small_method(chance), small_method(chance)
            votes = (chance.randint(1, 30), chance.randint(1, 30))
            value = (votes, chance.randint(1, 30))
            good = shows(first, second, value)
            met += good
            self.assert_exactly(accepts_favoring(first, second, value), good)
            if good:
                # Whoever wrote it.
                self.assert_exactly(favors_smaller(first, second), True)
        self.assertGreater(met, 30)

    def test_nothing_shows_what_is_not_so(self):
        # Point 70.
        chance = random.Random(73)
        met = 0
        while met < 60:
            first, second = small_method(chance), small_method(chance)
            if favors_smaller(first, second):
                continue
            met += 1
            for _ in range(20):
                votes = (chance.randint(1, 20), chance.randint(1, 20))
                value = (votes, chance.randint(1, 15))
                self.assert_exactly(accepts_favoring(first, second, value), False)

    def test_the_first_party_has_more_votes(self):
        self.assert_exactly(accepts_favoring(HONDT, LAGUE, ((5, 2), 2)), True)
        self.assert_exactly(accepts_favoring(HONDT, LAGUE, ((2, 5), 2)), False)
        self.assert_exactly(accepts_favoring(LAGUE, HONDT, ((2, 5), 2)), False)
        for house in range(1, 20):
            self.assert_exactly(accepts_favoring(HONDT, LAGUE, ((5, 5), house)), False)

    def test_in_each_valid_division(self):
        # (2, 0) and (1, 1) are valid for the first method, and (1, 1) for the second one.
        self.assert_exactly(accepts_favoring(HONDT, LAGUE, ((2, 1), 2)), False)
        # (2, 0) is valid for the first method, and (2, 0) and (1, 1) for the second one.
        self.assert_exactly(accepts_favoring(HONDT, LAGUE, ((3, 1), 2)), False)

    def test_houses_from_1_to_100(self):
        found = [votes for votes in range(1, 99) if shows(HONDT, LAGUE, ((99, votes), 100))]
        self.assertTrue(found)
        for votes in range(1, 99):
            told = accepts_favoring(HONDT, LAGUE, ((99, votes), 100))
            self.assert_exactly(told, votes in found)
            for house in (-1, 0, 1, 101, 10**20):
                told = accepts_favoring(HONDT, LAGUE, ((99, votes), house))
                self.assert_exactly(told, False)

    def test_votes_of_any_size(self):
        for times in (1, 10**9, 10**60):
            value = ((5 * times, 2 * times), 2)
            self.assert_exactly(accepts_favoring(HONDT, LAGUE, value), True)
            self.assert_exactly(accepts_favoring(HONDT, LAGUE, ((2 * times, times), 2)), False)
            self.assert_exactly(accepts_favoring(HONDT, LAGUE, ((3 * times, times), 2)), False)
            if times > 1:
                value = ((2 * times + 1, times), 2)
                self.assert_exactly(accepts_favoring(HONDT, LAGUE, value), True)
                value = ((3 * times - 1, times), 2)
                self.assert_exactly(accepts_favoring(HONDT, LAGUE, value), True)

    def test_other_values(self):
        for value in NO_QUESTIONS:
            self.assert_exactly(accepts_favoring(HONDT, LAGUE, value), False)

    def test_twisted(self):
        chance = random.Random(74)
        for _ in range(40):
            first, second = small_method(chance), small_method(chance)
            told = favoring_votes(first, second)
            self.assert_judged(
                lambda value: accepts_favoring(first, second, value),
                lambda value: shows(first, second, value),
                told if told is not None else ((5, 2), 2),
            )


if __name__ == "__main__":
    unittest.main()
