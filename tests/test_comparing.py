"""Points 63 to 68 and 71 to 73: equivalent methods, and votes that tell others apart."""

import itertools
import math
import random
import unittest
from fractions import Fraction

from dividedseats.comparing import (
    accepts_ratio,
    accepts_telling,
    are_equivalent,
    common_ratio,
    telling_votes,
)
from dividedseats.methods import multiplied
from dividedseats.shares import count_valid, is_valid, nth_valid
from support import (
    HONDT,
    LAGUE,
    MODIFIED,
    OTHER_KINDS,
    WRONG_METHODS,
    Checks,
    plain_divisors,
    sample,
    small_method,
    small_methods,
)
from two_parties import NO_QUESTIONS, first_shares, index_pairs, is_question, simplest, span

# The first six divisors are as those of HONDT, the seventh one is not.
LATE = ((1, 2, 3, 4, 5, 6), 7)
EDGES = (
    HONDT,
    LAGUE,
    MODIFIED,
    LATE,
    ((1, 2, 3, 4, 5, 6), 1),
    ((2, 4, 6), 2),
    ((1,) * 6, 1),
    ((1,), 1000),
    ((1000,), 1),
    ((1000,), 1000),
    ((1000,) * 6, 1000),
    ((1, 1000), 1000),
    ((5, 5, 9), 3),
    ((1, 5), 1),
)

BOTH = [("method", HONDT, WRONG_METHODS), ("other", LAGUE, WRONG_METHODS)]


def are_proportional(first, second):
    one, two = plain_divisors(first, 16), plain_divisors(second, 16)
    return len({Fraction(d, e) for d, e in zip(one, two)}) == 1


def plain_telling(first, second):
    """Point 66, in another way."""
    one, two = plain_divisors(first, 16), plain_divisors(second, 16)
    for a, b in index_pairs(span(first, second)):
        if one[a] * two[b] != two[a] * one[b]:
            ratios = sorted([Fraction(one[a], one[b]), Fraction(two[a], two[b])])
            return simplest(*ratios), a + b + 1
    return None


def tells(first, second, value):
    """Point 67, in another way. The integers of the value are integers."""
    if not is_question(value):
        return False
    return not set(first_shares(first, *value)) & set(first_shares(second, *value))


class ExampleTest(Checks, unittest.TestCase):
    def test_of_the_interface(self):
        double = ((2, 4), 2)
        self.assert_exactly(are_equivalent(HONDT, double), True)
        self.assert_exactly(common_ratio(HONDT, double), (1, 2))
        self.assert_exactly(accepts_ratio(HONDT, double, (2, 4)), True)
        self.assert_exactly(accepts_ratio(HONDT, LAGUE, (1, 1)), False)
        self.assert_exactly(telling_votes(HONDT, LAGUE), ((2, 5), 2))
        self.assert_exactly(accepts_telling(HONDT, LAGUE, ((2, 5), 2)), True)
        self.assert_exactly(accepts_telling(HONDT, LAGUE, ((1, 3), 2)), False)
        self.assert_exactly(telling_votes(HONDT, double), None)

    def test_of_point_73(self):
        # The first one gives both seats to the second party, the other one a seat to each.
        self.assert_exactly(telling_votes(HONDT, LAGUE), ((2, 5), 2))
        for method, seats in ((HONDT, (0, 2)), (LAGUE, (1, 1))):
            self.assert_exactly(count_valid(method, (2, 5), 2), 1)
            self.assert_exactly(nth_valid(method, (2, 5), 2, 0), seats)


class EquivalentTest(Checks, unittest.TestCase):
    def assert_right(self, first, second):
        same = are_proportional(first, second)
        self.assert_exactly(are_equivalent(first, second), same)
        ratio = common_ratio(first, second)
        if same:
            self.assertEqual(Fraction(*ratio), Fraction(first[0][0], second[0][0]))
            self.assertEqual(math.gcd(*ratio), 1)
            self.assert_exactly(accepts_ratio(first, second, ratio), True)
        else:
            self.assert_exactly(ratio, None)
            own = (first[0][0], second[0][0])
            self.assert_exactly(accepts_ratio(first, second, own), False)
            self.assert_exactly(accepts_ratio(first, second, (first[1], second[1])), False)

    def test_all_small_ones(self):
        for first, second in itertools.product(small_methods(3, 3), repeat=2):
            self.assert_right(first, second)

    def test_edges(self):
        for first, second in itertools.product(EDGES, repeat=2):
            self.assert_right(first, second)

    def test_the_same_method_twice(self):
        for method in EDGES:
            self.assert_exactly(are_equivalent(method, method), True)
            self.assert_exactly(common_ratio(method, method), (1, 1))

    def test_one_multiplied(self):
        chance = random.Random(63)
        for _ in range(60):
            method = small_method(chance)
            times = chance.randint(1, 40)
            self.assert_exactly(common_ratio(method, multiplied(method, times)), (1, times))
            self.assert_exactly(common_ratio(multiplied(method, times), method), (times, 1))
            both = multiplied(method, 6), multiplied(method, 10)
            self.assert_exactly(common_ratio(*both), (3, 5))
            self.assert_exactly(accepts_ratio(*both, (6, 10)), True)

    def test_needless_firsts(self):
        self.assert_exactly(common_ratio(((2, 4, 6, 8, 10, 12), 2), ((3,), 3)), (2, 3))
        self.assert_exactly(common_ratio(LATE, HONDT), None)
        self.assert_exactly(common_ratio(((1, 2, 3, 4, 5, 7), 1), HONDT), None)

    def test_equivalent_methods_have_the_same_valid_seats(self):
        # Point 63.
        for method, votes, house in sample(64, 40, 4):
            same = multiplied(method, 3)
            for index in range(min(count_valid(method, votes, house), 3)):
                seats = nth_valid(method, votes, house, index)
                self.assert_exactly(nth_valid(same, votes, house, index), seats)

    def test_other_ratios(self):
        two, three = ((2, 4), 2), ((3,), 3)
        for times in (1, 2, 7, 10**50):
            self.assert_exactly(accepts_ratio(two, three, (2 * times, 3 * times)), True)
            self.assert_exactly(accepts_ratio(two, three, (3 * times, 2 * times)), False)
            self.assert_exactly(accepts_ratio(two, three, (2 * times, 3 * times + 1)), False)
        for value in OTHER_KINDS + ((), (2,), (2, 3, 1), [2, 3], (0, 0), (-2, -3), (2.0, 3.0)):
            self.assert_exactly(accepts_ratio(two, three, value), False)
        for value in ((True, True), (1, True), (True, 1), (1, None), ("1", "1"), Fraction(1, 1)):
            self.assert_exactly(accepts_ratio(HONDT, HONDT, value), False)
        for value in itertools.product(range(-1, 9), repeat=2):
            self.assert_exactly(accepts_ratio(LATE, HONDT, value), False)

    def test_twisted_ratios(self):
        chance = random.Random(65)
        for _ in range(15):
            method = small_method(chance)
            first, second = multiplied(method, 4), multiplied(method, 14)
            self.assert_judged(
                lambda value: accepts_ratio(first, second, value),
                lambda value: len(value) == 2 and min(value) > 0 and 7 * value[0] == 2 * value[1],
                (2, 7),
            )

    def test_wrong_arguments(self):
        self.assert_checked(are_equivalent, BOTH)
        self.assert_checked(common_ratio, BOTH)
        self.assert_checked(accepts_ratio, BOTH + [("value", (1, 1), None)])


class TellingTest(Checks, unittest.TestCase):
    def assert_right(self, first, second):
        told = telling_votes(first, second)
        self.assert_exactly(told, plain_telling(first, second))
        self.assertEqual(told is None, are_proportional(first, second))
        if told is not None:
            self.assert_exactly(accepts_telling(first, second, told), True)
            self.assert_exactly(accepts_telling(second, first, told), True)
            self.assert_exactly(tells(first, second, told), True)
            self.assertLessEqual(told[1], 13)

    def test_known(self):
        # Between 1/1001 and 1/2, between 1/1001 and 1/1000, and between 1000/1002 and 1000/1001.
        self.assert_exactly(telling_votes(((1,), 1), ((1,), 1000)), ((1, 3), 2))
        self.assert_exactly(telling_votes(((1,), 999), ((1,), 1000)), ((2, 2001), 2))
        self.assert_exactly(telling_votes(((1000,), 1), ((1000,), 2)), ((501, 502), 2))
        self.assert_exactly(telling_votes(LATE, HONDT)[1], 7)
        self.assert_exactly(telling_votes(((1, 2, 3, 4, 5, 7), 1), HONDT)[1], 6)

    def test_all_small_ones(self):
        for first, second in itertools.product(small_methods(3, 3), repeat=2):
            self.assert_right(first, second)

    def test_edges(self):
        for first, second in itertools.product(EDGES, repeat=2):
            self.assert_right(first, second)

    def test_great_divisors(self):
        chance = random.Random(66)
        for _ in range(150):
            pair = []
            for _ in range(2):
                firsts = sorted(chance.randint(1, 1000) for _ in range(chance.randint(1, 6)))
                pair.append((tuple(firsts), chance.randint(1, 1000)))
            self.assert_right(*pair)

    def test_seats_of_the_program(self):
        # Point 67, by the valid seats of chapter 2, where these reach.
        chance = random.Random(67)
        for _ in range(80):
            first, second = small_method(chance), small_method(chance)
            told = telling_votes(first, second)
            if told is not None and told[1] <= 8:
                votes, house = told
                for own in range(house + 1):
                    seats = (own, house - own)
                    both = is_valid(first, votes, seats) and is_valid(second, votes, seats)
                    self.assertFalse(both)

    def test_nothing_tells_equivalent_methods_apart(self):
        chance = random.Random(68)
        for _ in range(40):
            method = small_method(chance)
            same = multiplied(method, chance.randint(1, 9))
            for _ in range(20):
                votes = (chance.randint(1, 12), chance.randint(1, 12))
                value = (votes, chance.randint(1, 20))
                self.assert_exactly(accepts_telling(method, same, value), False)
                self.assert_exactly(accepts_telling(method, method, value), False)

    def test_other_votes(self):
        # Right or not, as all ways to divide the house say.
        chance = random.Random(69)
        met = 0
        for _ in range(500):
            first, second = small_method(chance), small_method(chance)
            votes = (chance.randint(1, 30), chance.randint(1, 30))
            value = (votes, chance.randint(1, 30))
            good = tells(first, second, value)
            met += good
            self.assert_exactly(accepts_telling(first, second, value), good)
        self.assertGreater(met, 50)

    def test_houses_from_1_to_100(self):
        first, second = ((1,), 1), ((1,) * 6, 1000)
        votes = (1000000, 999)
        right = [
            house for house in range(-1, 104)
            if accepts_telling(first, second, (votes, house))
        ]
        self.assertEqual(right, [h for h in range(-1, 104) if tells(first, second, (votes, h))])
        self.assertEqual(right[-1], 100)
        for house in (1, 2, 3, 50, 99, 100):
            value = ((100, 29), house)
            self.assert_exactly(accepts_telling(HONDT, LAGUE, value), tells(HONDT, LAGUE, value))
        for house in (0, -1, 101, 102, 1000, 10**20):
            for votes in ((100, 29), (2, 5), (1000000, 999)):
                self.assert_exactly(accepts_telling(HONDT, LAGUE, (votes, house)), False)
        found = [votes for votes in range(1, 99) if tells(HONDT, LAGUE, ((99, votes), 100))]
        self.assertTrue(found)
        for votes in range(1, 99):
            told = accepts_telling(HONDT, LAGUE, ((99, votes), 100))
            self.assert_exactly(told, votes in found)
            self.assert_exactly(accepts_telling(HONDT, LAGUE, ((99, votes), 101)), False)
            self.assert_exactly(accepts_telling(HONDT, LAGUE, ((99, votes), 1)), False)

    def test_votes_of_any_size(self):
        for times in (1, 10**6, 10**9, 10**60):
            value = ((2 * times, 5 * times), 2)
            self.assert_exactly(accepts_telling(HONDT, LAGUE, value), True)
            # One vote from the quotients at which a seat can be either one's.
            for votes, good in (
                ((times, 2 * times + 1), True),
                ((times, 2 * times), False),
                ((times + 1, 3 * times), times > 2),
                ((times, 3 * times), False),
            ):
                value = (votes, 2)
                self.assert_exactly(tells(HONDT, LAGUE, value), good and times > 1)
                self.assert_exactly(accepts_telling(HONDT, LAGUE, value), good and times > 1)

    def test_other_values(self):
        for value in NO_QUESTIONS:
            self.assert_exactly(accepts_telling(HONDT, LAGUE, value), False)

    def test_twisted(self):
        chance = random.Random(70)
        for _ in range(40):
            first, second = small_method(chance), small_method(chance)
            told = telling_votes(first, second)
            self.assert_judged(
                lambda value: accepts_telling(first, second, value),
                lambda value: tells(first, second, value),
                told if told is not None else ((2, 5), 2),
            )

    def test_wrong_arguments(self):
        self.assert_checked(telling_votes, BOTH)
        self.assert_checked(accepts_telling, BOTH + [("value", ((2, 5), 2), None)])


if __name__ == "__main__":
    unittest.main()
