"""Points 6, 13, 19, 20, 24, 25 and 27 to 29: which seats are valid."""

import itertools
import unittest
from fractions import Fraction

from dividedseats.methods import divisors, multiplied
from dividedseats.shares import (
    count_valid,
    index_of_valid,
    is_seats,
    is_valid,
    is_votes,
    nth_valid,
    shows_wrong,
    told_wrong,
)
from support import (
    HONDT,
    LAGUE,
    MODIFIED,
    OTHER_KINDS,
    WRONG_METHODS,
    WRONG_SEATS,
    WRONG_VOTES,
    Checks,
    all_seats,
    all_valid,
    plain_divisors,
    sample,
    wrong_integers,
)

VOTES = (7, 4, 1)
SEATS = (2, 1, 0)
# All divisors that count here are equal.
FLAT = ((5,) * 6, 1)

METHOD_ROW = ("method", HONDT, WRONG_METHODS)
VOTES_ROW = ("votes", VOTES, WRONG_VOTES)
SEATS_ROW = ("seats", SEATS, WRONG_SEATS)
HOUSE_ROW = ("house", 3, wrong_integers(0, 8))


def told_valid(method, votes, house):
    """The valid seats of a house, as the program tells them."""
    many = count_valid(method, votes, house)
    return [nth_valid(method, votes, house, index) for index in range(many)]


class VotesTest(Checks, unittest.TestCase):
    def test_votes(self):
        for value in ((), (1,), (1000000,), (1, 1000000), (1,) * 5, (1000000,) * 5, (3, 9, 3)):
            self.assert_exactly(is_votes(value), True)

    def test_other_values(self):
        for value in WRONG_VOTES:
            self.assert_exactly(is_votes(value), False)


class SeatsTest(Checks, unittest.TestCase):
    def test_seats(self):
        for value in ((0, 0, 0), (8, 0, 0), (0, 0, 8), (3, 3, 2), (2, 1, 0), (0, 7, 1)):
            self.assert_exactly(is_seats(value, VOTES), True)
        self.assert_exactly(is_seats((), ()), True)
        self.assert_exactly(is_seats((8,), (5,)), True)
        self.assert_exactly(is_seats((2, 2, 2, 1, 1), (1,) * 5), True)

    def test_other_values(self):
        for value in WRONG_SEATS:
            self.assert_exactly(is_seats(value, VOTES), False)
        self.assert_exactly(is_seats((0,), ()), False)
        self.assert_exactly(is_seats((9,), (5,)), False)
        self.assert_exactly(is_seats((2, 2, 2, 2, 1), (1,) * 5), False)
        for value in OTHER_KINDS:
            self.assert_exactly(is_seats(value, ()), False)
            self.assert_exactly(is_seats((value,), (5,)), False)

    def test_votes_are_not_checked(self):
        self.assert_exactly(is_seats((1,) * 6, (0,) * 6), True)


class ExampleTest(Checks, unittest.TestCase):
    votes = (60, 30, 10)

    def test_of_the_interface(self):
        self.assert_exactly(count_valid(HONDT, self.votes, 5), 2)
        self.assert_exactly(nth_valid(HONDT, self.votes, 5, 0), (4, 1, 0))
        self.assert_exactly(nth_valid(HONDT, self.votes, 5, 1), (3, 2, 0))
        self.assert_exactly(is_valid(HONDT, self.votes, (3, 1, 1)), False)
        self.assert_exactly(told_wrong(HONDT, self.votes, (3, 1, 1)), (2, 0))
        self.assert_exactly(shows_wrong(HONDT, self.votes, (3, 1, 1), (2, 1)), True)
        self.assert_exactly(index_of_valid(HONDT, self.votes, (3, 1, 1)), None)

    def test_of_point_28(self):
        self.assert_exactly(told_valid(HONDT, self.votes, 4), [(3, 1, 0)])
        self.assert_exactly(index_of_valid(HONDT, self.votes, (4, 1, 0)), 0)
        self.assert_exactly(index_of_valid(HONDT, self.votes, (3, 2, 0)), 1)
        self.assert_exactly(is_valid(HONDT, self.votes, (4, 1, 0)), True)
        self.assert_exactly(is_valid(HONDT, self.votes, (3, 2, 0)), True)
        self.assert_exactly(is_valid(HONDT, self.votes, (5, 0, 0)), False)

    def test_other_methods(self):
        votes = (53, 24, 23)
        self.assert_exactly(told_valid(HONDT, votes, 7), [(4, 2, 1)])
        self.assert_exactly(told_valid(HONDT, votes, 8), [(4, 2, 2)])
        self.assert_exactly(told_valid(LAGUE, votes, 7), [(3, 2, 2)])
        self.assert_exactly(told_valid(LAGUE, (5, 1), 3), [(3, 0), (2, 1)])
        self.assert_exactly(told_valid(MODIFIED, (15, 7), 2), [(2, 0), (1, 1)])
        self.assert_exactly(told_valid(MODIFIED, (16, 7), 2), [(2, 0)])
        self.assert_exactly(told_valid(MODIFIED, (14, 7), 2), [(1, 1)])


class EdgeTest(Checks, unittest.TestCase):
    def test_no_party(self):
        self.assert_exactly(is_valid(HONDT, (), ()), True)
        self.assert_exactly(told_wrong(HONDT, (), ()), None)
        self.assert_exactly(index_of_valid(HONDT, (), ()), 0)
        self.assert_exactly(told_valid(HONDT, (), 0), [()])
        for house in range(1, 9):
            self.assert_exactly(count_valid(HONDT, (), house), 0)
            for index in (0, -1, 1):
                self.assert_bad("index", nth_valid, HONDT, (), house, index)
        for value in ((0, 1), (0, 0), (), (-1, 0)):
            self.assert_exactly(shows_wrong(HONDT, (), (), value), False)

    def test_one_party(self):
        for house in range(9):
            self.assert_exactly(told_valid(MODIFIED, (1000000,), house), [(house,)])
            self.assert_exactly(is_valid(MODIFIED, (1,), (house,)), True)
            self.assert_exactly(told_wrong(MODIFIED, (1,), (house,)), None)
            self.assert_exactly(shows_wrong(MODIFIED, (1,), (house,), (0, 0)), False)

    def test_house_0(self):
        for votes in ((5,), (1, 1000000), (3, 3, 3, 3, 3)):
            none = (0,) * len(votes)
            self.assert_exactly(told_valid(LAGUE, votes, 0), [none])
            self.assert_exactly(is_valid(LAGUE, votes, none), True)
            self.assert_exactly(index_of_valid(LAGUE, votes, none), 0)

    def test_least_and_most_votes(self):
        self.assert_exactly(told_valid(HONDT, (1, 1000000), 8), [(0, 8)])
        self.assert_exactly(told_wrong(HONDT, (1, 1000000), (1, 7)), (0, 1))
        # 1000 votes for a second seat are as many as 1 vote for a first one.
        self.assert_exactly(told_valid(((1, 1000), 1000), (1000, 1), 2), [(2, 0), (1, 1)])
        self.assert_exactly(told_valid(((1, 1000), 1000), (999, 1), 2), [(1, 1)])
        self.assert_exactly(told_valid(HONDT, (999999, 1000000), 1), [(0, 1)])
        self.assert_exactly(told_valid(HONDT, (1000000, 1000000), 1), [(1, 0), (0, 1)])

    def test_five_parties_with_eight_seats(self):
        equal = (1,) * 5
        valid = told_valid(HONDT, equal, 8)
        self.assertEqual(len(valid), 10)
        self.assert_exactly(valid[0], (2, 2, 2, 1, 1))
        self.assert_exactly(valid[9], (1, 1, 2, 2, 2))
        self.assert_exactly(count_valid(HONDT, equal, 5), 1)
        self.assert_exactly(
            told_valid(HONDT, equal, 1),
            [(1, 0, 0, 0, 0), (0, 1, 0, 0, 0), (0, 0, 1, 0, 0), (0, 0, 0, 1, 0), (0, 0, 0, 0, 1)],
        )

    def test_equal_divisors(self):
        # Of the 495 ways, only those with a seventh seat of a party are not valid.
        self.assert_exactly(count_valid(FLAT, (1,) * 5, 8), 470)
        self.assert_exactly(nth_valid(FLAT, (1,) * 5, 8, 0), (6, 2, 0, 0, 0))
        self.assert_exactly(nth_valid(FLAT, (1,) * 5, 8, 469), (0, 0, 0, 2, 6))
        self.assert_exactly(is_valid(FLAT, (1, 1), (6, 0)), True)
        self.assert_exactly(told_wrong(FLAT, (1, 1), (7, 0)), (0, 1))
        self.assert_exactly(told_valid(FLAT, (6, 5), 6), [(6, 0)])
        self.assert_exactly(told_valid(FLAT, (6, 5), 7), [(7, 0), (6, 1)])

    def test_last_index(self):
        for method, votes, house in ((HONDT, (1,) * 5, 8), (FLAT, (2, 2), 4), (LAGUE, (5,), 8)):
            many = count_valid(method, votes, house)
            last = nth_valid(method, votes, house, many - 1)
            self.assert_exactly(index_of_valid(method, votes, last), many - 1)
            for index in wrong_integers(0, many - 1):
                self.assert_bad("index", nth_valid, method, votes, house, index)


class WrongPairTest(Checks, unittest.TestCase):
    def test_first_one_is_told(self):
        votes, seats = (60, 30, 10), (1, 2, 2)
        shown = [
            value
            for value in itertools.permutations(range(3), 2)
            if shows_wrong(HONDT, votes, seats, value)
        ]
        self.assert_exactly(shown, [(1, 0), (2, 0), (2, 1)])
        self.assert_exactly(told_wrong(HONDT, votes, seats), (1, 0))
        self.assert_exactly(told_wrong(HONDT, (10, 20, 30), (2, 0, 0)), (0, 1))
        self.assert_exactly(shows_wrong(HONDT, (10, 20, 30), (2, 0, 0), (0, 2)), True)

    def test_equal_quotients_show_nothing(self):
        self.assert_exactly(told_wrong(HONDT, (2, 1), (2, 0)), None)
        self.assert_exactly(told_wrong(HONDT, (2, 1), (1, 1)), None)
        self.assert_exactly(shows_wrong(HONDT, (2, 1), (2, 0), (0, 1)), False)

    def test_other_values(self):
        votes, seats = (60, 30, 10), (3, 1, 1)
        self.assert_exactly(shows_wrong(HONDT, votes, seats, (2, 0)), True)
        wrong = [(0, 2), (0, 1), (1, 0), (1, 2), (2, 2), (0, 0), (2, 3), (3, 0), (2, -3), (-1, 0)]
        wrong += [[2, 0], (2,), (2, 0, 0), (), "20", ("2", "0"), (2, None), (2.0, 0.0)]
        wrong += [(2, False), (2, True), ((2,), (0,)), ([2], [0]), 2, (2, "0"), {2: 0}]
        for value in tuple(wrong) + OTHER_KINDS:
            self.assert_exactly(shows_wrong(HONDT, votes, seats, value), False)
        # These would show it if True and False were the parties 1 and 0.
        self.assert_exactly(shows_wrong(HONDT, (1, 3), (1, 0), (0, 1)), True)
        for value in ((False, True), (0, True), (False, 1)):
            self.assert_exactly(shows_wrong(HONDT, (1, 3), (1, 0), value), False)

    def test_party_without_a_seat_shows_nothing(self):
        for other in (1, 2):
            self.assert_exactly(shows_wrong(HONDT, (1, 9, 9), (0, 1, 0), (0, other)), False)


class AgainstQuotientsTest(Checks, unittest.TestCase):
    def test_valid_seats(self):
        for method, votes, house in sample(1, 150, 5):
            valid = all_valid(method, votes, house)
            self.assert_exactly(count_valid(method, votes, house), len(valid))
            for index in range(0, len(valid), 1 + len(valid) // 4):
                self.assert_exactly(nth_valid(method, votes, house, index), valid[index])
                self.assert_exactly(index_of_valid(method, votes, valid[index]), index)

    def test_all_valid_seats_of_few_parties(self):
        for method, votes, house in sample(2, 150, 3):
            self.assert_exactly(told_valid(method, votes, house), all_valid(method, votes, house))

    def test_all_seats(self):
        for method, votes, house in sample(3, 60, 4):
            valid = all_valid(method, votes, house)
            for seats in all_seats(len(votes), house):
                good = seats in valid
                self.assert_exactly(is_valid(method, votes, seats), good)
                place = valid.index(seats) if good else None
                self.assert_exactly(index_of_valid(method, votes, seats), place)

    def test_pairs(self):
        for method, votes, house in sample(4, 60, 4):
            row = plain_divisors(method, 9)
            for seats in all_seats(len(votes), house):
                shown = [
                    (i, j)
                    for i, j in itertools.product(range(len(votes)), repeat=2)
                    if seats[i] and votes[j] * row[seats[i] - 1] > votes[i] * row[seats[j]]
                ]
                self.assert_exactly(told_wrong(method, votes, seats), shown[0] if shown else None)
                for value in itertools.product(range(len(votes)), repeat=2):
                    told = shows_wrong(method, votes, seats, value)
                    self.assert_exactly(told, value in shown)


class PropertiesTest(Checks, unittest.TestCase):
    def test_methods_in_some_ratio(self):
        # Point 13.
        for method, votes, house in sample(5, 60, 4):
            same = multiplied(method, 3)
            self.assertEqual(told_valid(method, votes, house), told_valid(same, votes, house))
        needless = told_valid(((2, 4, 6), 2), (9, 6, 3), 8)
        self.assertEqual(told_valid(HONDT, (9, 6, 3), 8), needless)

    def test_different_divisors(self):
        # Point 24.
        for method, votes, house in sample(6, 150, 4):
            if len(set(divisors(method, 9))) < 9:
                continue
            for column in zip(*told_valid(method, votes, house)):
                self.assertLessEqual(max(column) - min(column), 1)

    def test_multiplied_votes(self):
        # Point 25.
        for method, votes, house in sample(7, 60, 4):
            greater = tuple(7 * many for many in votes)
            self.assertEqual(told_valid(method, votes, house), told_valid(method, greater, house))

    def test_changed_places(self):
        # Point 25.
        for method, votes, house in sample(8, 40, 4):
            back = [seats[::-1] for seats in told_valid(method, votes[::-1], house)]
            self.assertEqual(told_valid(method, votes, house), sorted(back, reverse=True))

    def test_more_votes(self):
        # Point 25.
        for method, votes, house in sample(9, 60, 4):
            for seats in told_valid(method, votes, house):
                for i, j in itertools.permutations(range(len(votes)), 2):
                    self.assertFalse(votes[i] > votes[j] and seats[i] < seats[j])

    def test_more_than_one_only_where_quotients_are_equal(self):
        # Points 19 and 29.
        for method, votes, house in sample(10, 150, 4):
            row = plain_divisors(method, 8)
            quotients = [Fraction(many, low) for many in votes for low in row]
            many = count_valid(method, votes, house)
            self.assertEqual(many > 0, bool(votes) or house == 0)
            if len(set(quotients)) == len(quotients):
                self.assertLessEqual(many, 1)

    def test_same_answers_again(self):
        # Point 2.
        for method, votes, house in sample(11, 20, 4):
            self.assertEqual(told_valid(method, votes, house), told_valid(method, votes, house))


class WrongArgumentsTest(Checks, unittest.TestCase):
    def test_of_seats(self):
        for function in (is_valid, told_wrong, index_of_valid):
            self.assert_checked(function, [METHOD_ROW, VOTES_ROW, SEATS_ROW])
        rows = [METHOD_ROW, VOTES_ROW, SEATS_ROW, ("value", (0, 1), None)]
        self.assert_checked(shows_wrong, rows)

    def test_of_houses(self):
        self.assert_checked(count_valid, [METHOD_ROW, VOTES_ROW, HOUSE_ROW])
        rows = [METHOD_ROW, VOTES_ROW, HOUSE_ROW, ("index", 0, wrong_integers(0, 0))]
        self.assert_checked(nth_valid, rows)

    def test_seats_for_other_votes(self):
        self.assert_bad("seats", is_valid, HONDT, (7, 4), SEATS)
        self.assert_bad("seats", told_wrong, HONDT, (), SEATS)
        self.assert_bad("seats", index_of_valid, HONDT, (7, 4, 1, 1), SEATS)

    def test_votes_are_checked_before_seats_for_them(self):
        for function in (is_valid, told_wrong, index_of_valid):
            self.assert_bad("votes", function, HONDT, None, SEATS)
            self.assert_bad("votes", function, HONDT, (1,) * 6, (1,) * 6)


if __name__ == "__main__":
    unittest.main()
