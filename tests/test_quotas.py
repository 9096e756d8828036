"""Points 84 to 86, 93 to 95: quotas, and transfers of seats towards them."""

import itertools
import random
import unittest
from fractions import Fraction

from dividedseats.quotas import above_quota, below_quota, first_transfer, nearest_seats, quotas
from support import WRONG_SEATS, WRONG_VOTES, Checks, all_seats, some_seats

FUNCTIONS = (quotas, below_quota, above_quota, first_transfer, nearest_seats)
HALF = Fraction(1, 2)


def shares(votes, seats):
    """The quotas as fractions."""
    return [Fraction(many * sum(seats), sum(votes)) for many in votes]


def plain_below(votes, seats):
    told = enumerate(zip(shares(votes, seats), seats))
    return tuple(party for party, (quota, own) in told if quota - own >= 1)


def plain_above(votes, seats):
    told = enumerate(zip(shares(votes, seats), seats))
    return tuple(party for party, (quota, own) in told if own and own - quota >= 1)


def transfers(votes, seats):
    """All pairs between which a seat makes both differ less from their quotas."""
    told = shares(votes, seats)
    return [
        (one, other)
        for one, other in itertools.permutations(range(len(votes)), 2)
        if seats[one]
        and abs(seats[one] - 1 - told[one]) < abs(seats[one] - told[one])
        and abs(seats[other] + 1 - told[other]) < abs(seats[other] - told[other])
    ]


def moved(seats, one, other):
    row = list(seats)
    row[one] -= 1
    row[other] += 1
    return tuple(row)


def squares(votes, seats):
    return sum((own - quota) ** 2 for own, quota in zip(seats, shares(votes, seats)))


def plain_nearest(votes, seats):
    while transfers(votes, seats):
        seats = moved(seats, *min(transfers(votes, seats)))
    return seats


def drawn(seed, many, most_votes):
    """Votes and seats of no party to five, with many seats for few votes, too."""
    chance = random.Random(seed)
    for _ in range(many):
        parties = chance.randint(0, 5)
        votes = tuple(chance.randint(1, most_votes) for _ in range(parties))
        yield votes, some_seats(chance, parties, 8)


class QuotasTest(Checks, unittest.TestCase):
    def assert_right(self, votes, seats):
        told = tuple((share.numerator, share.denominator) for share in shares(votes, seats))
        self.assert_exactly(quotas(votes, seats), told)
        self.assert_exactly(below_quota(votes, seats), plain_below(votes, seats))
        self.assert_exactly(above_quota(votes, seats), plain_above(votes, seats))
        first = min(transfers(votes, seats), default=None)
        self.assert_exactly(first_transfer(votes, seats), first)
        self.assert_exactly(nearest_seats(votes, seats), plain_nearest(votes, seats))

    def test_of_the_interface(self):
        self.assert_exactly(quotas((9, 1), (1, 3)), ((18, 5), (2, 5)))
        self.assert_exactly(below_quota((9, 1), (1, 3)), (0,))
        self.assert_exactly(above_quota((9, 1), (1, 3)), (1,))
        self.assert_exactly(first_transfer((9, 1), (1, 3)), (1, 0))
        self.assert_exactly(nearest_seats((9, 1), (1, 3)), (4, 0))
        self.assert_exactly(first_transfer((2, 5), (0, 2)), (1, 0))
        self.assert_exactly(nearest_seats((), ()), ())

    def test_all_small_ones(self):
        for parties in range(4):
            for votes in itertools.product((1, 2, 3, 5), repeat=parties):
                for house in range(6):
                    for seats in all_seats(parties, house):
                        self.assert_right(votes, seats)

    def test_drawn_ones(self):
        for most_votes in (3, 9, 60, 1000000):
            for votes, seats in drawn(most_votes, 120, most_votes):
                self.assert_right(votes, seats)

    def test_nobody_and_one_party(self):
        self.assert_exactly(quotas((), ()), ())
        self.assert_exactly(below_quota((), ()), ())
        self.assert_exactly(above_quota((), ()), ())
        self.assert_exactly(first_transfer((), ()), None)
        for own in range(9):
            for votes in ((1,), (1000000,)):
                self.assert_exactly(quotas(votes, (own,)), ((own, 1),))
                self.assert_exactly(below_quota(votes, (own,)), ())
                self.assert_exactly(above_quota(votes, (own,)), ())
                self.assert_exactly(first_transfer(votes, (own,)), None)
                self.assert_exactly(nearest_seats(votes, (own,)), (own,))

    def test_no_seats(self):
        for votes in ((1,), (7, 4, 1), (1000000,) * 5):
            none = (0,) * len(votes)
            self.assert_exactly(quotas(votes, none), ((0, 1),) * len(votes))
            self.assert_exactly(below_quota(votes, none), ())
            self.assert_exactly(above_quota(votes, none), ())
            self.assert_exactly(first_transfer(votes, none), None)
            self.assert_exactly(nearest_seats(votes, none), none)

    def test_eight_seats_of_five_parties(self):
        votes = (1000000, 1, 1, 1, 1)
        self.assert_right(votes, (0, 2, 2, 2, 2))
        self.assert_exactly(below_quota(votes, (0, 2, 2, 2, 2)), (0,))
        self.assert_exactly(above_quota(votes, (0, 2, 2, 2, 2)), (1, 2, 3, 4))
        self.assert_exactly(nearest_seats(votes, (0, 2, 2, 2, 2)), (8, 0, 0, 0, 0))
        self.assert_exactly(nearest_seats((1,) * 5, (8, 0, 0, 0, 0)), (2, 2, 2, 2, 0))
        for seats in ((8, 0, 0, 0, 0), (0, 0, 0, 0, 8), (2, 2, 2, 1, 1), (0, 0, 1, 3, 4)):
            for votes in ((1,) * 5, (1000000,) * 5, (1, 2, 3, 4, 5), (5, 999999, 1, 1000000, 2)):
                self.assert_right(votes, seats)

    def test_at_just_one_seat_more_or_less(self):
        # The quotas are 1 and 1.
        self.assert_exactly(quotas((1, 1), (2, 0)), ((1, 1), (1, 1)))
        self.assert_exactly(below_quota((1, 1), (2, 0)), (1,))
        self.assert_exactly(above_quota((1, 1), (2, 0)), (0,))
        # A bit less than 1 for the one, a bit more for the other.
        self.assert_exactly(below_quota((499999, 500001), (2, 0)), (1,))
        self.assert_exactly(above_quota((499999, 500001), (2, 0)), (0,))
        self.assert_exactly(below_quota((500001, 499999), (2, 0)), ())
        self.assert_exactly(above_quota((500001, 499999), (2, 0)), ())
        # A party without seats is not above its quota, and one with a seat has no such quota.
        self.assert_exactly(above_quota((1, 1000000), (0, 8)), ())
        self.assert_exactly(above_quota((1, 1000000), (1, 7)), ())
        self.assert_exactly(above_quota((1, 1000000), (2, 6)), (0,))
        self.assert_exactly(below_quota((1, 1000000), (1, 7)), ())
        self.assert_exactly(below_quota((1, 1000000), (2, 6)), (1,))

    def test_at_just_half_a_seat_more_or_less(self):
        self.assert_exactly(quotas((3, 1), (1, 1)), ((3, 2), (1, 2)))
        # Just S + 1/2 and S - 1/2, in both ways.
        self.assert_exactly(first_transfer((3, 1), (1, 1)), None)
        self.assert_exactly(first_transfer((3, 1), (2, 0)), None)
        self.assert_exactly(nearest_seats((3, 1), (1, 1)), (1, 1))
        self.assert_exactly(nearest_seats((3, 1), (2, 0)), (2, 0))
        self.assert_exactly(first_transfer((3, 1), (0, 2)), (1, 0))
        self.assert_exactly(nearest_seats((3, 1), (0, 2)), (1, 1))
        # A bit more, and a bit less.
        self.assert_exactly(first_transfer((750001, 249999), (1, 1)), (1, 0))
        self.assert_exactly(first_transfer((750001, 249999), (2, 0)), None)
        self.assert_exactly(first_transfer((749999, 250001), (2, 0)), (0, 1))
        self.assert_exactly(first_transfer((749999, 250001), (1, 1)), None)
        # The one comes nearer, but the others have just T + 1/2, or a bit more.
        self.assert_exactly(first_transfer((2, 1, 1), (2, 0, 0)), None)
        self.assert_exactly(first_transfer((1, 1, 1, 1), (2, 0, 0, 0)), None)
        self.assert_exactly(first_transfer((4, 3, 3), (2, 0, 0)), (0, 1))

    def test_one_party_comes_nearer_and_no_other(self):
        # Of 2 seats it has a quota of 1/2, and so have the others: they are just half a seat away.
        self.assert_exactly(transfers((1, 1, 1, 1), (2, 0, 0, 0)), [])
        gives, takes = 0, 0
        for votes, seats in drawn(86, 2000, 9):
            told = list(zip(shares(votes, seats), seats))
            givers = any(own and quota < own - HALF for quota, own in told)
            takers = any(quota > own + HALF for quota, own in told)
            gives += givers and not takers
            takes += takers and not givers
            if not (givers and takers):
                self.assert_exactly(first_transfer(votes, seats), None)
                self.assert_exactly(nearest_seats(votes, seats), seats)
        self.assertGreater(gives, 10)
        self.assertGreater(takes, 10)


class PropertiesTest(Checks, unittest.TestCase):
    def test_squares_are_less_behind_a_transfer(self):
        # Point 86.
        met = 0
        for most_votes in (4, 30, 1000000):
            for votes, seats in drawn(87, 300, most_votes):
                nearest = nearest_seats(votes, seats)
                while first_transfer(votes, seats) is not None:
                    met += 1
                    further = moved(seats, *first_transfer(votes, seats))
                    self.assertLess(squares(votes, further), squares(votes, seats))
                    seats = further
                self.assert_exactly(nearest, seats)
        self.assertGreater(met, 500)

    def test_nearest_seats_have_no_transfer(self):
        for votes, seats in drawn(88, 300, 50):
            nearest = nearest_seats(votes, seats)
            self.assert_exactly(first_transfer(votes, nearest), None)
            self.assert_exactly(nearest_seats(votes, nearest), nearest)
            self.assertEqual(sum(nearest), sum(seats))

    def test_quotas_rounded_are_neither_below_nor_above(self):
        # Point 84.
        for votes, seats in drawn(89, 300, 50):
            for party, (quota, own) in enumerate(zip(shares(votes, seats), seats)):
                rounded = own in (quota.__floor__(), quota.__ceil__())
                told = party in below_quota(votes, seats) + above_quota(votes, seats)
                self.assertEqual(told, not rounded)

    def test_quotas_are_the_house_together(self):
        for votes, seats in drawn(90, 200, 1000):
            told = [Fraction(p, q) for p, q in quotas(votes, seats)]
            self.assertEqual(sum(told), sum(seats))

    def test_multiplied_votes(self):
        # Point 93.
        for times in (2, 7, 1000):
            for votes, seats in drawn(91, 100, 1000):
                more = tuple(times * many for many in votes)
                for function in FUNCTIONS:
                    self.assert_exactly(function(more, seats), function(votes, seats))


class WrongTest(Checks, unittest.TestCase):
    def test_wrong_arguments(self):
        for function in FUNCTIONS:
            self.assert_checked(function, [
                ("votes", (7, 4, 1), WRONG_VOTES),
                ("seats", (2, 1, 0), WRONG_SEATS),
            ])
            self.assert_bad("seats", function, (), (0,))
            self.assert_bad("seats", function, (5,), (9,))
            self.assert_bad("votes", function, (1,) * 6, (0,) * 6)


if __name__ == "__main__":
    unittest.main()
