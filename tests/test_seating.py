"""Points 21 to 23, 26 and 28: giving orders, next and last parties, and bounds."""

import itertools
import random
import unittest
from fractions import Fraction

from dividedseats.seating import accepts_order, bounds, last_parties, next_parties, told_order
from support import (
    HONDT,
    LAGUE,
    MODIFIED,
    OTHER_KINDS,
    WRONG_METHODS,
    WRONG_SEATS,
    WRONG_VOTES,
    Checks,
    all_valid,
    has_key,
    plain_divisors,
    sample,
    small_method,
    some_seats,
    wrong_integers,
)

VOTES = (7, 4, 1)
FLAT = ((5,) * 6, 1)
EDGE_METHODS = (
    HONDT,
    MODIFIED,
    FLAT,
    ((1,), 1000),
    ((1000,), 1),
    ((1000,), 1000),
    ((1,) * 6, 1),
    ((1000,) * 6, 1000),
    ((1, 1000), 1000),
)

METHOD_ROW = ("method", HONDT, WRONG_METHODS)
VOTES_ROW = ("votes", VOTES, WRONG_VOTES)
SEATS_ROW = ("seats", (2, 1, 0), WRONG_SEATS)
HOUSE_ROW = ("house", 3, wrong_integers(0, 8))


def changed(seats, party, by):
    row = list(seats)
    row[party] += by
    return tuple(row)


def plain_next(method, votes, seats):
    """The parties with the greatest quotient."""
    row = plain_divisors(method, 9)
    quotients = [Fraction(many, row[own]) for many, own in zip(votes, seats)]
    return tuple(party for party, own in enumerate(quotients) if own == max(quotients))


def plain_last(method, votes, seats):
    """The parties that with a seat less are next behind valid seats."""
    found = []
    for party, own in enumerate(seats):
        before = changed(seats, party, -1)
        if own and has_key(method, votes, before) and party in plain_next(method, votes, before):
            found.append(party)
    return tuple(found)


def giving_orders(method, votes, most):
    """All giving orders of at most so many parties."""
    found = {(): (0,) * len(votes)}
    newest = dict(found)
    for _ in range(most):
        newest = {
            order + (party,): changed(seats, party, 1)
            for order, seats in newest.items()
            for party in plain_next(method, votes, seats)
        }
        found.update(newest)
    return found


class ExampleTest(Checks, unittest.TestCase):
    votes = (60, 30, 10)

    def test_of_the_interface(self):
        self.assert_exactly(told_order(HONDT, self.votes, 5), (0, 0, 1, 0, 0))
        self.assert_exactly(accepts_order(HONDT, self.votes, (0, 1, 0, 0, 1)), True)
        self.assert_exactly(next_parties(HONDT, self.votes, (3, 1, 0)), (0, 1))
        self.assert_exactly(bounds(HONDT, self.votes, 5), ((3, 4), (1, 2), (0, 0)))
        self.assert_exactly(last_parties(HONDT, self.votes, (3, 2, 0)), (1,))

    def test_of_point_28(self):
        # Either one can be given the fifth seat.
        self.assert_exactly(next_parties(HONDT, self.votes, (3, 1, 0)), (0, 1))
        self.assert_exactly(last_parties(HONDT, self.votes, (4, 1, 0)), (0,))
        self.assert_exactly(accepts_order(HONDT, self.votes, (0, 0, 1, 0, 0)), True)
        self.assert_exactly(accepts_order(HONDT, self.votes, (0, 0, 1, 0, 1)), True)
        self.assert_exactly(accepts_order(HONDT, self.votes, (0, 0, 1, 0, 2)), False)


class NextPartiesTest(Checks, unittest.TestCase):
    def test_no_party(self):
        self.assert_exactly(next_parties(HONDT, (), ()), ())

    def test_one_party(self):
        for method in EDGE_METHODS:
            for many in (1, 1000000):
                for own in range(9):
                    self.assert_exactly(next_parties(method, (many,), (own,)), (0,))

    def test_five_parties(self):
        equal = (1000000,) * 5
        self.assert_exactly(next_parties(HONDT, equal, (0,) * 5), (0, 1, 2, 3, 4))
        self.assert_exactly(next_parties(HONDT, equal, (1, 0, 1, 0, 1)), (1, 3))
        self.assert_exactly(next_parties(FLAT, equal, (5, 0, 1, 2, 0)), (0, 1, 2, 3, 4))
        self.assert_exactly(next_parties(FLAT, equal, (6, 0, 1, 1, 0)), (1, 2, 3, 4))

    def test_eight_seats(self):
        # The ninth seat of the first party has the quotient 1, too.
        self.assert_exactly(next_parties(HONDT, (9, 1), (8, 0)), (0, 1))
        self.assert_exactly(next_parties(HONDT, (10, 1), (8, 0)), (0,))
        self.assert_exactly(next_parties(HONDT, (8, 1), (8, 0)), (1,))
        self.assert_exactly(next_parties(((1,) * 6, 1000), (3001, 1), (0, 8)), (0,))

    def test_least_and_most_votes(self):
        self.assert_exactly(next_parties(HONDT, (1, 1000000), (0, 7)), (1,))
        self.assert_exactly(next_parties(((1, 1000), 1000), (1000, 1), (1, 0)), (0, 1))
        self.assert_exactly(next_parties(((1, 1000), 1000), (999, 1), (1, 0)), (1,))
        self.assert_exactly(next_parties(HONDT, (999999, 1000000), (0, 0)), (1,))

    def test_seats_that_are_not_valid(self):
        self.assert_exactly(next_parties(HONDT, (5, 3), (0, 1)), (0,))
        self.assert_exactly(next_parties(HONDT, (5, 3, 1), (0, 0, 8)), (0,))
        self.assert_exactly(next_parties(LAGUE, (5, 1), (4, 1)), (0,))

    def test_against_quotients(self):
        chance = random.Random(21)
        for _ in range(400):
            method = small_method(chance)
            votes = tuple(chance.randint(1, 9) for _ in range(chance.randint(0, 5)))
            seats = some_seats(chance, len(votes), 8)
            found = next_parties(method, votes, seats)
            self.assert_exactly(found, plain_next(method, votes, seats))
            self.assertEqual(bool(found), bool(votes))

    def test_wrong_arguments(self):
        self.assert_checked(next_parties, [METHOD_ROW, VOTES_ROW, SEATS_ROW])
        self.assert_bad("seats", next_parties, HONDT, (), (0,))
        self.assert_bad("seats", next_parties, HONDT, (5,), ())


class LastPartiesTest(Checks, unittest.TestCase):
    def test_nobody(self):
        self.assert_exactly(last_parties(HONDT, (), ()), ())
        for votes in ((1,), (5, 3), (1000000,) * 5):
            self.assert_exactly(last_parties(HONDT, votes, (0,) * len(votes)), ())

    def test_one_party(self):
        for method in EDGE_METHODS:
            for own in range(1, 9):
                self.assert_exactly(last_parties(method, (3,), (own,)), (0,))

    def test_eight_seats_of_five_parties(self):
        equal = (1,) * 5
        self.assert_exactly(last_parties(HONDT, equal, (2, 1, 2, 1, 2)), (0, 2, 4))
        self.assert_exactly(last_parties(HONDT, equal, (1,) * 5), (0, 1, 2, 3, 4))
        self.assert_exactly(last_parties(FLAT, equal, (6, 0, 1, 1, 0)), (0, 2, 3))

    def test_before_must_be_valid(self):
        # The first party is next behind (0, 1), but these are not valid.
        self.assert_exactly(next_parties(HONDT, (5, 3), (0, 1)), (0,))
        self.assert_exactly(last_parties(HONDT, (5, 3), (1, 1)), (1,))

    def test_seats_that_are_not_valid(self):
        for votes, seats in (((5, 3), (0, 1)), ((60, 30, 10), (3, 1, 1)), ((1, 1), (2, 0))):
            self.assert_not_possible("seats", last_parties, HONDT, votes, seats)
        self.assert_exactly(last_parties(FLAT, (1, 1), (2, 0)), (0,))

    def test_against_quotients(self):
        for method, votes, house in sample(22, 100, 4):
            for seats in all_valid(method, votes, house):
                found = last_parties(method, votes, seats)
                self.assert_exactly(found, plain_last(method, votes, seats))
                self.assertEqual(bool(found), house > 0)

    def test_other_seats_against_quotients(self):
        chance = random.Random(23)
        for _ in range(300):
            method = small_method(chance)
            votes = tuple(chance.randint(1, 9) for _ in range(chance.randint(1, 5)))
            seats = some_seats(chance, len(votes), 8)
            if has_key(method, votes, seats):
                expected = plain_last(method, votes, seats)
                self.assert_exactly(last_parties(method, votes, seats), expected)
            else:
                self.assert_not_possible("seats", last_parties, method, votes, seats)

    def test_wrong_arguments(self):
        self.assert_checked(last_parties, [METHOD_ROW, VOTES_ROW, SEATS_ROW])
        self.assert_bad("method", last_parties, None, (5, 3), (0, 1))
        self.assert_bad("votes", last_parties, HONDT, [5, 3], (0, 1))


class NextAndLastTest(unittest.TestCase):
    def test_all_valid_seats_come_from_valid_ones(self):
        # Point 22.
        for method, votes, house in sample(24, 60, 4):
            if house == 8 or not votes:
                continue
            lesser = all_valid(method, votes, house)
            come = {
                changed(seats, party, 1)
                for seats in lesser
                for party in next_parties(method, votes, seats)
            }
            greater = all_valid(method, votes, house + 1)
            self.assertEqual(come, set(greater))
            for seats in greater:
                before = {
                    changed(seats, party, -1) for party in last_parties(method, votes, seats)
                }
                self.assertLessEqual(before, set(lesser))
                self.assertTrue(before)


class OrderTest(Checks, unittest.TestCase):
    def test_told(self):
        self.assert_exactly(told_order(HONDT, (7, 4, 1), 8), (0, 1, 0, 0, 1, 0, 0, 1))
        self.assert_exactly(told_order(LAGUE, (5, 1), 3), (0, 0, 0))
        self.assert_exactly(told_order(FLAT, (1, 1), 8), (0,) * 6 + (1, 1))
        self.assert_exactly(told_order(HONDT, (1,) * 5, 8), (0, 1, 2, 3, 4, 0, 1, 2))
        self.assert_exactly(told_order(HONDT, (1, 1000000), 8), (1,) * 8)
        self.assert_exactly(told_order(MODIFIED, (15, 7), 2), (0, 0))

    def test_no_seats(self):
        for votes in ((), (1,), (5, 3), (1000000,) * 5):
            self.assert_exactly(told_order(HONDT, votes, 0), ())

    def test_no_parties(self):
        for house in range(1, 9):
            self.assert_not_possible("parties", told_order, HONDT, (), house)

    def test_told_of_a_lesser_house_begins_the_greater_one(self):
        for method, votes, house in sample(25, 100, 5):
            if votes:
                longest = told_order(method, votes, 8)
                self.assert_exactly(told_order(method, votes, house), longest[:house])
                self.assert_exactly(accepts_order(method, votes, longest), True)

    def test_told_takes_the_first_one(self):
        for method, votes, house in sample(26, 100, 5):
            if not votes:
                continue
            seats = (0,) * len(votes)
            for party in told_order(method, votes, house):
                self.assertEqual(party, min(plain_next(method, votes, seats)))
                seats = changed(seats, party, 1)
            self.assertEqual(sum(seats), house)

    def test_orders_lead_to_exactly_the_valid_seats(self):
        # Point 23.
        for method, votes, house in sample(27, 60, 3):
            reached = {}
            for order, seats in giving_orders(method, votes, min(house, 6)).items():
                self.assert_exactly(accepts_order(method, votes, order), True)
                reached.setdefault(len(order), set()).add(seats)
            for many in range(min(house, 6) + 1):
                valid = set(all_valid(method, votes, many))
                self.assertEqual(reached.get(many, set()), valid)

    def test_all_short_tuples(self):
        for method, votes, _ in sample(28, 40, 4):
            orders = giving_orders(method, votes, 3)
            for many in range(4):
                for value in itertools.product(range(-1, len(votes) + 1), repeat=many):
                    self.assert_exactly(accepts_order(method, votes, value), value in orders)

    def test_eight_and_nine_parties(self):
        for many in range(9):
            self.assert_exactly(accepts_order(HONDT, (3,), (0,) * many), True)
        for many in range(9, 12):
            self.assert_exactly(accepts_order(HONDT, (3,), (0,) * many), False)
        self.assert_exactly(accepts_order(HONDT, (1,) * 5, (4, 2, 0, 1, 3, 3, 1, 0)), True)
        self.assert_exactly(accepts_order(HONDT, (1,) * 5, (4, 2, 0, 1, 3, 3, 1, 0, 2)), False)

    def test_no_party(self):
        self.assert_exactly(accepts_order(HONDT, (), ()), True)
        for value in ((0,), (-1,), (None,), (0,) * 8, [], None):
            self.assert_exactly(accepts_order(HONDT, (), value), False)

    def test_other_orders(self):
        votes = (60, 30, 10)
        right = [(0, 1, 0, 0, 1), (0, 0, 1, 0, 0), (0, 0, 1, 0, 1), (0, 1, 0, 0, 0), ()]
        wrong = [(1, 0, 0, 0, 1), (0, 0, 0, 1, 0), (0, 1, 1, 0, 0), (0, 1, 0, 0, 2), (2,), (3,)]
        for value in right:
            self.assert_exactly(accepts_order(HONDT, votes, value), True)
        for value in wrong:
            self.assert_exactly(accepts_order(HONDT, votes, value), False)

    def test_twisted_orders(self):
        for method, votes, house in sample(29, 15, 3):
            if votes and house:
                orders = giving_orders(method, votes, 9)
                orders = {order for order in orders if len(order) <= 8}
                self.assert_judged(
                    lambda value: accepts_order(method, votes, value),
                    lambda value: value in orders,
                    told_order(method, votes, house),
                )

    def test_other_values(self):
        for value in OTHER_KINDS + (0, "0", (False,), (0.0,), ("0",), ((0,),), [0], {0: 0}):
            self.assert_exactly(accepts_order(HONDT, (3, 1), value), False)
        # These would be right if True and False were the parties 1 and 0.
        for value in ((False, True), (0, True), (False, 1), (0, False)):
            self.assert_exactly(accepts_order(HONDT, (2, 1), value), False)

    def test_wrong_arguments(self):
        self.assert_checked(told_order, [METHOD_ROW, VOTES_ROW, HOUSE_ROW])
        self.assert_checked(accepts_order, [METHOD_ROW, VOTES_ROW, ("value", (0,), None)])

    def test_parties_are_asked_for_last(self):
        for function in (told_order, bounds):
            self.assert_bad("method", function, None, (), 3)
            self.assert_bad("house", function, HONDT, (), 9)
            self.assert_bad("house", function, HONDT, (), True)


class BoundsTest(Checks, unittest.TestCase):
    def test_known(self):
        self.assert_exactly(bounds(HONDT, (7, 4, 1), 3), ((2, 2), (1, 1), (0, 0)))
        self.assert_exactly(bounds(FLAT, (1, 1), 8), ((2, 6), (2, 6)))
        self.assert_exactly(bounds(HONDT, (1,) * 5, 8), ((1, 2),) * 5)
        self.assert_exactly(bounds(HONDT, (1,) * 5, 5), ((1, 1),) * 5)
        self.assert_exactly(bounds(HONDT, (1, 1000000), 8), ((0, 0), (8, 8)))

    def test_edges(self):
        self.assert_exactly(bounds(HONDT, (), 0), ())
        self.assert_exactly(bounds(HONDT, (5, 3), 0), ((0, 0), (0, 0)))
        for house in range(9):
            self.assert_exactly(bounds(MODIFIED, (1000000,), house), ((house, house),))

    def test_no_parties(self):
        for house in range(1, 9):
            self.assert_not_possible("parties", bounds, HONDT, (), house)

    def test_reached_and_never_passed(self):
        for method, votes, house in sample(30, 200, 4):
            if votes:
                columns = zip(*all_valid(method, votes, house))
                expected = tuple((min(column), max(column)) for column in columns)
                self.assert_exactly(bounds(method, votes, house), expected)

    def test_greater_house(self):
        # Point 26.
        for method, votes, _ in sample(31, 60, 4):
            if not votes:
                continue
            for house in range(8):
                lesser = bounds(method, votes, house)
                greater = bounds(method, votes, house + 1)
                for (low, high), (low_then, high_then) in zip(lesser, greater):
                    self.assertLessEqual(low, low_then)
                    self.assertLessEqual(high, high_then)

    def test_different_divisors(self):
        # Point 24.
        for method, votes, house in sample(32, 100, 4):
            if votes and len(set(plain_divisors(method, 9))) == 9:
                for low, high in bounds(method, votes, house):
                    self.assertLessEqual(high - low, 1)

    def test_wrong_arguments(self):
        self.assert_checked(bounds, [METHOD_ROW, VOTES_ROW, HOUSE_ROW])


if __name__ == "__main__":
    unittest.main()
