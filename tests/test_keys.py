"""Points 30 to 39: electoral keys, violations, and the seats of a key."""

import itertools
import random
import unittest
from fractions import Fraction

from dividedseats.keys import (
    accepts_key,
    accepts_violation,
    key_ends,
    least_seats,
    most_seats,
    violation,
)
from dividedseats.methods import multiplied
from support import (
    HONDT,
    LAGUE,
    MODIFIED,
    OTHER_KINDS,
    WRONG_METHODS,
    WRONG_SEATS,
    WRONG_VOTES,
    Checks,
    all_valid,
    has_key,
    plain_divisors,
    sample,
    small_method,
    some_seats,
)

VOTES = (7, 4, 1)
SEATS = (2, 1, 0)
GREATEST = 1000000000
FLAT = ((5,) * 6, 1)

METHOD_ROW = ("method", HONDT, WRONG_METHODS)
VOTES_ROW = ("votes", VOTES, WRONG_VOTES)
SEATS_ROW = ("seats", SEATS, WRONG_SEATS)
# What is no key for anybody, whether it is an argument or is judged.
NO_KEYS = OTHER_KINDS + (
    2,
    "21",
    (),
    (2,),
    (2, 1, 1),
    [2, 1],
    (0, 1),
    (1, 0),
    (0, 0),
    (-2, 1),
    (2, -1),
    (-2, -1),
    (True, 1),
    (2, True),
    (True, True),
    (False, 1),
    (2, None),
    ("2", "1"),
    (2.0, 1),
    (2, 1.0),
    ((2,), (1,)),
    ([2], 1),
    Fraction(2, 1),
)
KEY_ROW = ("key", (3, 1), NO_KEYS + ((GREATEST + 1, 1), (1, GREATEST + 1), (10**30, 10**30)))


def as_pair(fraction):
    return (fraction.numerator, fraction.denominator)


def plain_ends(method, votes, seats):
    """The ends as fractions, of any seats."""
    row = plain_divisors(method, 9)
    following = [Fraction(many, row[own]) for many, own in zip(votes, seats)]
    last = [Fraction(many, row[own - 1]) for many, own in zip(votes, seats) if own]
    return max(following, default=None), min(last, default=None)


def is_key(method, votes, seats, value):
    """Point 30, with fractions. The value is a pair of integers from 1 on."""
    if not all(type(item) is int and item >= 1 for item in value) or len(value) != 2:
        return False
    least, greatest = plain_ends(method, votes, seats)
    key = Fraction(*value)
    return (least is None or least <= key) and (greatest is None or key <= greatest)


def plain_least(method, votes, key):
    row = plain_divisors(method, 10)
    counts = [[many <= Fraction(*key) * item for item in row] + [True] for many in votes]
    return tuple(count.index(True) for count in counts)


def plain_most(method, votes, key):
    row = plain_divisors(method, 10)
    return tuple(
        max([0] + [own for own in range(1, 11) if many >= Fraction(*key) * row[own - 1]])
        for many in votes
    )


class ExampleTest(Checks, unittest.TestCase):
    def test_of_the_interface(self):
        self.assert_exactly(key_ends(HONDT, VOTES, SEATS), ((7, 3), (7, 2)))
        self.assert_exactly(violation(HONDT, VOTES, SEATS), None)
        self.assert_exactly(key_ends(HONDT, VOTES, (1, 1, 1)), None)
        self.assert_exactly(violation(HONDT, VOTES, (1, 1, 1)), (2, 0))
        self.assert_exactly(accepts_key(HONDT, VOTES, SEATS, (3, 1)), True)
        self.assert_exactly(accepts_key(HONDT, VOTES, SEATS, (4, 1)), False)
        self.assert_exactly(accepts_violation(HONDT, VOTES, (1, 1, 1), (1, 0)), False)
        self.assert_exactly(key_ends(HONDT, (), ()), (None, None))
        self.assert_exactly(key_ends(((5, 5), 1), (1, 1), (2, 0)), ((1, 5), (1, 5)))
        self.assert_exactly(least_seats(HONDT, VOTES, (2, 1)), (3, 1, 0))
        self.assert_exactly(most_seats(HONDT, VOTES, (2, 1)), (3, 2, 0))

    def test_of_point_39(self):
        # The next quotients are 7/3, 2 and 1, and the last ones 7/2 and 4.
        for value in ((7, 3), (3, 1), (7, 2), (14, 4)):
            self.assert_exactly(accepts_key(HONDT, VOTES, SEATS, value), True)
        for value in ((2, 1), (1, 1), (4, 1), (6999, 3000), (7001, 2000)):
            self.assert_exactly(accepts_key(HONDT, VOTES, SEATS, value), False)
        self.assert_exactly(accepts_violation(HONDT, VOTES, (1, 1, 1), (2, 0)), True)
        self.assert_exactly(violation(HONDT, VOTES, (1, 1, 1)), (2, 0))


class EndsTest(Checks, unittest.TestCase):
    def test_no_party(self):
        self.assert_exactly(key_ends(HONDT, (), ()), (None, None))
        self.assert_exactly(accepts_key(HONDT, (), (), (1, 1)), True)
        self.assert_exactly(accepts_key(HONDT, (), (), (10**50, 1)), True)

    def test_no_party_with_seats(self):
        self.assert_exactly(key_ends(MODIFIED, (21, 14), (0, 0)), ((3, 1), None))
        self.assert_exactly(key_ends(HONDT, (1000000,), (0,)), ((1000000, 1), None))
        self.assert_exactly(accepts_key(HONDT, (1000000,), (0,), (10**50, 1)), True)
        self.assert_exactly(accepts_key(HONDT, (1000000,), (0,), (999999, 1)), False)

    def test_eight_seats(self):
        self.assert_exactly(key_ends(HONDT, (72,), (8,)), ((8, 1), (9, 1)))
        self.assert_exactly(key_ends(LAGUE, (1,), (8,)), ((1, 17), (1, 15)))
        self.assert_exactly(key_ends(HONDT, (1, 1000000), (0, 8)), ((1000000, 9), (125000, 1)))
        self.assert_exactly(key_ends(HONDT, (1,) * 5, (2, 2, 2, 1, 1)), ((1, 2), (1, 2)))

    def test_edges_of_methods(self):
        self.assert_exactly(key_ends(((1000,) * 6, 1000), (1,), (6,)), ((1, 2000), (1, 1000)))
        self.assert_exactly(key_ends(((1, 1000), 1000), (1000,), (1,)), ((1, 1), (1000, 1)))
        self.assert_exactly(key_ends(((1,) * 6, 1), (3, 3), (6, 2)), ((3, 1), (3, 1)))
        self.assert_exactly(key_ends(((1,) * 6, 1), (3, 3), (7, 1)), None)

    def test_only_one_key(self):
        # The last quotient is the next one of the other party.
        self.assert_exactly(key_ends(HONDT, (2, 1), (1, 1)), ((1, 1), (1, 1)))
        self.assert_exactly(key_ends(HONDT, (2, 1), (2, 0)), ((1, 1), (1, 1)))

    def test_against_fractions(self):
        chance = random.Random(32)
        for _ in range(600):
            method = small_method(chance)
            votes = tuple(chance.randint(1, 9) for _ in range(chance.randint(0, 5)))
            seats = some_seats(chance, len(votes), 8)
            expected = None
            if has_key(method, votes, seats):
                ends = plain_ends(method, votes, seats)
                expected = tuple(None if end is None else as_pair(end) for end in ends)
                # Ends that are not None are keys.
                for end in expected:
                    if end is not None:
                        told = accepts_key(method, votes, seats, end)
                        self.assert_exactly(told, True)
            self.assert_exactly(key_ends(method, votes, seats), expected)

    def test_valid_seats_have_keys(self):
        for method, votes, house in sample(33, 80, 4):
            for seats in all_valid(method, votes, house):
                self.assertIsNotNone(key_ends(method, votes, seats))

    def test_one_seat_more(self):
        # Point 36.
        met = 0
        for method, votes, house in sample(34, 150, 4):
            if house == 8 or not votes:
                continue
            greater = set(all_valid(method, votes, house + 1))
            for seats in all_valid(method, votes, house):
                for party in range(len(votes)):
                    more = seats[:party] + (seats[party] + 1,) + seats[party + 1:]
                    if more in greater:
                        met += 1
                        least = key_ends(method, votes, seats)[0]
                        self.assert_exactly(key_ends(method, votes, more)[1], least)
        self.assertGreater(met, 100)

    def test_multiplied(self):
        # Point 37.
        for method, votes, house in sample(35, 60, 4):
            for seats in all_valid(method, votes, house)[:5]:
                ends = key_ends(method, votes, seats)
                more = key_ends(method, tuple(7 * many for many in votes), seats)
                less = key_ends(multiplied(method, 7), votes, seats)
                for end, up, down in zip(ends, more, less):
                    if end is None:
                        self.assertEqual((up, down), (None, None))
                        continue
                    self.assertEqual(Fraction(*up), 7 * Fraction(*end))
                    self.assertEqual(7 * Fraction(*down), Fraction(*end))

    def test_wrong_arguments(self):
        self.assert_checked(key_ends, [METHOD_ROW, VOTES_ROW, SEATS_ROW])
        self.assert_bad("seats", key_ends, HONDT, (7, 4), SEATS)


class KeyTest(Checks, unittest.TestCase):
    def test_keys_of_any_size(self):
        for times in (1, 2, 10**9, 10**50):
            value = (3 * times, times)
            self.assert_exactly(accepts_key(HONDT, VOTES, SEATS, value), True)
            value = (4 * times, times)
            self.assert_exactly(accepts_key(HONDT, VOTES, SEATS, value), False)
        close = 10**50
        self.assert_exactly(accepts_key(HONDT, VOTES, SEATS, (7 * close - 1, 3 * close)), False)
        self.assert_exactly(accepts_key(HONDT, VOTES, SEATS, (7 * close + 1, 3 * close)), True)
        self.assert_exactly(accepts_key(HONDT, VOTES, SEATS, (7 * close + 1, 2 * close)), False)
        self.assert_exactly(accepts_key(HONDT, VOTES, SEATS, (7 * close - 1, 2 * close)), True)

    def test_exactly_the_ratios_between_the_ends(self):
        chance = random.Random(36)
        for _ in range(300):
            method = small_method(chance)
            votes = tuple(chance.randint(1, 9) for _ in range(chance.randint(0, 4)))
            seats = some_seats(chance, len(votes), 8)
            for value in itertools.product(range(1, 10), repeat=2):
                told = accepts_key(method, votes, seats, value)
                self.assert_exactly(told, is_key(method, votes, seats, value))

    def test_exactly_one_of_key_and_violation(self):
        # Points 31, 33 and 34.
        chance = random.Random(37)
        for _ in range(200):
            method = small_method(chance)
            votes = tuple(chance.randint(1, 9) for _ in range(chance.randint(1, 4)))
            seats = some_seats(chance, len(votes), 8)
            ends = [as_pair(end) for end in plain_ends(method, votes, seats) if end is not None]
            keys = [key for key in ends if accepts_key(method, votes, seats, key)]
            pairs = [
                pair
                for pair in itertools.product(range(len(votes)), repeat=2)
                if accepts_violation(method, votes, seats, pair)
            ]
            self.assertEqual(bool(keys), not pairs)
            self.assertEqual(bool(keys), has_key(method, votes, seats))
            self.assert_exactly(violation(method, votes, seats), pairs[0] if pairs else None)

    def test_twisted_keys(self):
        for method, votes, house in sample(38, 40, 4):
            for seats in all_valid(method, votes, house)[:2]:
                for end in key_ends(method, votes, seats):
                    if end is not None:
                        self.assert_judged(
                            lambda value: accepts_key(method, votes, seats, value),
                            lambda value: is_key(method, votes, seats, value),
                            end,
                        )

    def test_other_values(self):
        for value in NO_KEYS:
            self.assert_exactly(accepts_key(HONDT, (2,), (1,), value), False)
            self.assert_exactly(accepts_key(HONDT, (), (), value), False)

    def test_wrong_arguments(self):
        rows = [METHOD_ROW, VOTES_ROW, SEATS_ROW, ("value", (3, 1), None)]
        self.assert_checked(accepts_key, rows)


class ViolationTest(Checks, unittest.TestCase):
    def test_first_one_is_told(self):
        votes, seats = (60, 30, 10), (1, 2, 2)
        for pair in itertools.product(range(-1, 4), repeat=2):
            good = pair in ((1, 0), (2, 0), (2, 1))
            self.assert_exactly(accepts_violation(HONDT, votes, seats, pair), good)
        self.assert_exactly(violation(HONDT, votes, seats), (1, 0))

    def test_equal_quotients_are_no_violation(self):
        self.assert_exactly(violation(HONDT, (2, 1), (2, 0)), None)
        self.assert_exactly(accepts_violation(HONDT, (2, 1), (2, 0), (0, 1)), False)
        self.assert_exactly(violation(HONDT, (3, 2), (2, 0)), (0, 1))
        self.assert_exactly(accepts_violation(HONDT, (3, 2), (2, 0), (0, 1)), True)

    def test_few_parties(self):
        self.assert_exactly(violation(HONDT, (), ()), None)
        self.assert_exactly(violation(HONDT, (1,), (8,)), None)
        for value in ((0, 0), (0, 1), (), None):
            self.assert_exactly(accepts_violation(HONDT, (), (), value), False)
            self.assert_exactly(accepts_violation(HONDT, (1,), (8,), value), False)

    def test_party_without_a_seat(self):
        self.assert_exactly(accepts_violation(HONDT, (1, 9, 9), (0, 1, 0), (0, 2)), False)

    def test_twisted_violations(self):
        chance = random.Random(39)
        for _ in range(60):
            method = small_method(chance)
            votes = tuple(chance.randint(1, 9) for _ in range(chance.randint(2, 4)))
            seats = some_seats(chance, len(votes), 8)
            row = plain_divisors(method, 9)
            pairs = [
                (i, j)
                for i, j in itertools.permutations(range(len(votes)), 2)
                if seats[i] and Fraction(votes[j], row[seats[j]]) > Fraction(votes[i], row[seats[i] - 1])
            ]
            self.assert_judged(
                lambda value: accepts_violation(method, votes, seats, value),
                lambda value: value in pairs,
                pairs[-1] if pairs else (0, 1),
            )

    def test_other_values(self):
        for value in OTHER_KINDS + ((True, False), (1, False), (True, 0), (1.0, 0.0), [1, 0], "10"):
            self.assert_exactly(accepts_violation(HONDT, (9, 1), (0, 1), value), False)
        self.assert_exactly(accepts_violation(HONDT, (9, 1), (0, 1), (1, 0)), True)

    def test_wrong_arguments(self):
        self.assert_checked(violation, [METHOD_ROW, VOTES_ROW, SEATS_ROW])
        rows = [METHOD_ROW, VOTES_ROW, SEATS_ROW, ("value", (0, 1), None)]
        self.assert_checked(accepts_violation, rows)


class SeatsOfKeysTest(Checks, unittest.TestCase):
    def test_edges_of_keys(self):
        for function in (least_seats, most_seats):
            self.assert_exactly(function(HONDT, (), (1, 1)), ())
            self.assert_exactly(function(HONDT, (), (1, GREATEST)), ())
            self.assert_exactly(function(HONDT, (1, 1000000), (GREATEST, 1)), (0, 0))
            self.assert_too_large("seats", function, HONDT, (1, 1000000), (1, GREATEST))
            self.assert_too_large("seats", function, HONDT, (1,), (1, GREATEST))
            self.assert_too_large("seats", function, HONDT, (1000000,), (1, 1))
        self.assert_exactly(least_seats(HONDT, (1,), (GREATEST, GREATEST)), (0,))
        self.assert_exactly(most_seats(HONDT, (1,), (GREATEST, GREATEST)), (1,))

    def test_eight_and_nine_seats(self):
        self.assert_exactly(least_seats(HONDT, (8,), (1, 1)), (7,))
        self.assert_exactly(most_seats(HONDT, (8,), (1, 1)), (8,))
        self.assert_exactly(least_seats(HONDT, (9,), (1, 1)), (8,))
        self.assert_too_large("seats", most_seats, HONDT, (9,), (1, 1))
        self.assert_too_large("seats", least_seats, HONDT, (10,), (1, 1))
        self.assert_exactly(most_seats(HONDT, (4, 4), (1, 1)), (4, 4))
        self.assert_too_large("seats", most_seats, HONDT, (4, 5), (1, 1))
        self.assert_exactly(least_seats(HONDT, (5, 5), (1, 1)), (4, 4))
        self.assert_too_large("seats", least_seats, HONDT, (5, 6), (1, 1))
        self.assert_exactly(most_seats(HONDT, (2, 2, 2, 1, 1), (1, 1)), (2, 2, 2, 1, 1))
        self.assert_too_large("seats", most_seats, HONDT, (2, 2, 2, 2, 1), (1, 1))

    def test_equal_firsts(self):
        self.assert_exactly(least_seats(FLAT, (5, 4), (1, 1)), (0, 0))
        self.assert_exactly(most_seats(FLAT, (5, 4), (1, 1)), (6, 0))
        self.assert_exactly(least_seats(FLAT, (6, 5), (1, 1)), (6, 0))
        self.assert_too_large("seats", most_seats, FLAT, (5, 5), (1, 1))
        self.assert_exactly(most_seats(((1000,) * 6, 1000), (1000000,), (1000, 1)), (6,))
        self.assert_exactly(most_seats(((1,), 1000), (1000000,), (1000000, 1001)), (2,))

    def test_against_fractions(self):
        # Point 35.
        chance = random.Random(40)
        for _ in range(800):
            method = small_method(chance)
            votes = tuple(chance.randint(1, 9) for _ in range(chance.randint(0, 5)))
            key = (chance.randint(1, 9), chance.randint(1, 9))
            for function, plain in ((least_seats, plain_least), (most_seats, plain_most)):
                expected = plain(method, votes, key)
                if sum(expected) > 8:
                    self.assert_too_large("seats", function, method, votes, key)
                    continue
                self.assert_exactly(function(method, votes, key), expected)
                self.assert_exactly(accepts_key(method, votes, expected, key), True)

    def test_exactly_the_seats_between(self):
        # Point 35.
        chance = random.Random(41)
        for _ in range(60):
            method = small_method(chance)
            votes = tuple(chance.randint(1, 6) for _ in range(chance.randint(1, 3)))
            key = (chance.randint(1, 4), chance.randint(1, 4))
            least, most = plain_least(method, votes, key), plain_most(method, votes, key)
            for seats in itertools.product(range(9), repeat=len(votes)):
                if sum(seats) <= 8:
                    between = all(a <= own <= b for a, own, b in zip(least, seats, most))
                    told = accepts_key(method, votes, seats, key)
                    self.assert_exactly(told, between)

    def test_greater_keys(self):
        # Point 35.
        chance = random.Random(42)
        for _ in range(200):
            method = small_method(chance)
            votes = tuple(chance.randint(1, 9) for _ in range(chance.randint(1, 3)))
            low, high = sorted(
                [(chance.randint(1, 9), chance.randint(1, 5)) for _ in range(2)],
                key=lambda key: Fraction(*key),
            )
            for function, plain in ((least_seats, plain_least), (most_seats, plain_most)):
                if sum(plain(method, votes, low)) <= 8:
                    lesser, greater = function(method, votes, high), function(method, votes, low)
                    self.assertTrue(all(a <= b for a, b in zip(lesser, greater)))

    def test_wrong_arguments(self):
        for function in (least_seats, most_seats):
            self.assert_checked(function, [METHOD_ROW, VOTES_ROW, KEY_ROW])
            # More seats than there may be come behind all that.
            self.assert_bad("method", function, ((0,), 1), (9, 9), (1, 1))
            self.assert_bad("votes", function, HONDT, [9, 9], (1, 1))
            self.assert_bad("key", function, HONDT, (9, 9), (1, 0))


class MultipliedTest(Checks, unittest.TestCase):
    def test_keys_are_those_of_multiplied_methods(self):
        for method, votes, house in sample(43, 40, 3):
            for seats in all_valid(method, votes, house)[:3]:
                for p, q in itertools.product(range(1, 6), repeat=2):
                    told = accepts_key(method, votes, seats, (p, q))
                    same = accepts_key(multiplied(method, 3), votes, seats, (p, 3 * q))
                    self.assert_exactly(same, told)


if __name__ == "__main__":
    unittest.main()
