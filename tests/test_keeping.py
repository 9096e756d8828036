"""Points 87 to 92: methods that go below or above quotas, or are not always near."""

import itertools
import random
import unittest
from fractions import Fraction

from dividedseats.keeping import (
    above_evidence,
    accepts_above,
    accepts_below,
    accepts_not_near,
    below_evidence,
    goes_below,
    is_always_near,
    near_evidence,
)
from dividedseats.methods import multiplied
from dividedseats.quotas import above_quota, below_quota, first_transfer
from support import (
    HONDT,
    LAGUE,
    MODIFIED,
    OTHER_KINDS,
    WRONG_METHODS,
    Checks,
    all_valid,
    has_key,
    plain_divisors,
    sample,
    small_method,
    small_methods,
)

HALF = Fraction(1, 2)
HUGE = 10**60
METHOD_ROW = ("method", HONDT, WRONG_METHODS)

# As 1, 2, 3 or as 1, 3, 5, but for the last first, or but for what stands behind it.
EDGES = (
    HONDT,
    LAGUE,
    MODIFIED,
    ((2, 4, 6), 2),
    ((1, 2, 3, 4, 5, 6), 1),
    ((1, 3, 5, 7, 9, 11), 2),
    ((1, 2, 3, 4, 5, 7), 1),
    ((1, 2, 3, 4, 5, 5), 1),
    ((1, 2, 3, 4, 5, 6), 2),
    ((2, 4, 6, 8, 10, 12), 1),
    ((1, 3, 5, 7, 9, 12), 2),
    ((1, 3, 5, 7, 9, 10), 2),
    ((1, 3, 5, 7, 9, 11), 1),
    ((1, 3, 5, 7, 9, 11), 3),
    ((100, 300, 500, 700, 900), 200),
    ((100, 300, 500, 700, 900), 201),
    ((100, 300, 500, 700, 900), 199),
    ((500, 1000), 500),
    ((500, 1000), 499),
    ((500, 1000), 501),
    ((500, 999), 500),
    ((500,), 1000),
    ((500,), 999),
    ((1,), 1000),
    ((1,), 3),
    ((1000,), 1),
    ((1000,), 1000),
    ((1000,), 999),
    ((999,), 1000),
    ((1,) * 6, 1),
    ((1,) * 6, 1000),
    ((1000,) * 6, 1),
    ((1000,) * 6, 1000),
    ((1, 1000), 1000),
    ((1, 1, 1, 1, 1, 1000), 1000),
    ((5, 5, 5), 1),
)


def are_as(method, step):
    """Whether the divisors are in the ratios of 1, 1 + step and so on."""
    row = plain_divisors(method, 20)
    return all(Fraction(item, row[0]) == 1 + at * step for at, item in enumerate(row))


def are_from_one(items):
    return all(item >= 1 for item in items)


def is_against(value):
    """Whether the value has the form of one against many. Its integers are integers."""
    return len(value) == 5 and are_from_one(value[:3]) and are_shown(value[3:])


def are_shown(seats):
    return len(seats) == 2 and all(0 <= own <= 100 for own in seats)


def quota(value):
    votes, many, other, seats, each = value
    return Fraction(votes * (seats + many * each), votes + many * other)


def is_below(method, value):
    """Points 87, 88 and 84, in another way. The integers of the value are integers."""
    if not is_against(value) or not has_key(method, (value[0], value[2]), value[3:]):
        return False
    return quota(value) - value[3] >= 1


def is_above(method, value):
    if not is_against(value) or not has_key(method, (value[0], value[2]), value[3:]):
        return False
    return value[3] >= 1 and value[3] - quota(value) >= 1


def is_not_near(method, value):
    """Points 91 and 85. The integers of the value are integers."""
    if len(value) != 2 or not all(isinstance(row, tuple) for row in value):
        return False
    votes, seats = value
    if len(votes) != 2 or not are_from_one(votes) or not are_shown(seats):
        return False
    return has_key(method, votes, seats) and is_transfer(votes, seats)


def is_transfer(votes, seats):
    """Whether a seat from the first one of two to the second one brings both nearer."""
    one, other = [Fraction(many * sum(seats), sum(votes)) for many in votes]
    return seats[0] > 0 and one < seats[0] - HALF and other > seats[1] + HALF


def spread(value):
    """The votes and seats of all parties of one against many."""
    votes, many, other, seats, each = value
    return (votes,) + (other,) * many, (seats,) + (each,) * many


def given(chance, method, votes, house):
    """Valid seats of any number of parties, drawn where several are next."""
    row = plain_divisors(method, house + 1)
    seats = [0] * len(votes)
    for _ in range(house):
        quotients = [Fraction(many, row[own]) for many, own in zip(votes, seats)]
        best = max(quotients)
        seats[chance.choice([at for at, item in enumerate(quotients) if item == best])] += 1
    return tuple(seats)


def great_method(chance, most):
    firsts = sorted(chance.randint(1, most) for _ in range(chance.randint(1, 6)))
    return tuple(firsts), chance.randint(1, most)


def some_methods():
    chance = random.Random(84)
    drawn = [great_method(chance, most) for most in (6, 30, 1000) for _ in range(80)]
    return EDGES + tuple(small_methods(4, 3)) + tuple(drawn)


class ExampleTest(Checks, unittest.TestCase):
    def test_of_the_interface(self):
        self.assert_exactly(goes_below(HONDT), False)
        self.assert_exactly(goes_below(LAGUE), True)
        self.assert_exactly(is_always_near(HONDT), False)
        self.assert_exactly(is_always_near(LAGUE), True)
        self.assert_exactly(below_evidence(HONDT), None)
        self.assert_exactly(near_evidence(LAGUE), None)
        self.assert_exactly(accepts_below(LAGUE, (11, 11, 5, 1, 1)), True)
        self.assert_exactly(accepts_above(HONDT, (5, 5, 1, 2, 0)), True)
        self.assert_exactly(accepts_not_near(HONDT, ((5, 2), (2, 0))), True)
        self.assert_exactly(accepts_below(HONDT, (11, 11, 5, 1, 1)), False)
        self.assert_exactly(accepts_below(LAGUE, (11, 11, 5, 1, 2)), False)
        self.assert_exactly(accepts_below(((5, 5, 5), 1), (24, 1, 26, 0, 3)), True)

    def test_of_point_95(self):
        self.assert_exactly(below_quota((9, 1), (1, 3)), (0,))
        self.assert_exactly(above_quota((9, 1), (1, 3)), (1,))


class ToldTest(Checks, unittest.TestCase):
    def assert_right(self, method):
        keeps, near = are_as(method, 1), are_as(method, 2)
        self.assert_exactly(goes_below(method), not keeps)
        self.assert_exactly(is_always_near(method), near)
        self.assert_told(method, below_evidence, accepts_below, is_below, not keeps)
        self.assert_told(method, above_evidence, accepts_above, is_above, True)
        self.assert_told(method, near_evidence, accepts_not_near, is_not_near, not near)

    def assert_told(self, method, tell, judge, right, exists):
        """The told evidence is accepted, and there is some exactly where it has to be."""
        told = tell(method)
        self.assertEqual(told is not None, exists, (method, told))
        if exists:
            self.assertIs(type(told), tuple)
            self.assert_exactly(judge(method, told), True)
            self.assertTrue(right(method, told))

    def test_some_methods(self):
        for method in some_methods():
            self.assert_right(method)

    def test_only_the_last_first_is_another_one(self):
        for firsts, step in (((1, 2, 3, 4, 5, 6), 1), ((1, 3, 5, 7, 9, 11), 2)):
            for last in range(firsts[-2], 20):
                self.assert_right((firsts[:-1] + (last,), step))
            for other in range(1, 6):
                self.assert_right((firsts, other))

    def test_which_ones(self):
        self.assertEqual([method for method in EDGES if not goes_below(method)], [
            HONDT,
            ((2, 4, 6), 2),
            ((1, 2, 3, 4, 5, 6), 1),
            ((500, 1000), 500),
            ((1000,), 1000),
        ])
        self.assertEqual([method for method in EDGES if is_always_near(method)], [
            LAGUE,
            ((1, 3, 5, 7, 9, 11), 2),
            ((100, 300, 500, 700, 900), 200),
            ((500,), 1000),
        ])

    def test_wrong_arguments(self):
        for function in (goes_below, is_always_near, below_evidence, above_evidence, near_evidence):
            self.assert_checked(function, [METHOD_ROW])


class PropertiesTest(Checks, unittest.TestCase):
    def test_each_method_lacks_one_of_both(self):
        # Point 92.
        for method in some_methods():
            self.assertTrue(goes_below(method) or not is_always_near(method))

    def test_equivalent_methods(self):
        # Point 92.
        chance = random.Random(92)
        methods = (HONDT, LAGUE) + tuple(small_method(chance) for _ in range(60))
        for method in methods:
            same = multiplied(method, chance.randint(2, 30))
            self.assert_exactly(goes_below(same), goes_below(method))
            self.assert_exactly(is_always_near(same), is_always_near(method))
            if goes_below(method):
                told = below_evidence(same)
                self.assert_exactly(accepts_below(method, told), True)
            if not is_always_near(method):
                self.assert_exactly(accepts_not_near(method, near_evidence(same)), True)
            self.assert_exactly(accepts_above(method, above_evidence(same)), True)

    def test_nobody_below_quota_with_divisors_as_1_2_3(self):
        # Point 89, with whatever number of parties.
        chance = random.Random(89)
        for method in (HONDT, ((3, 6), 3), ((1000,), 1000)):
            for _ in range(150):
                votes = tuple(chance.randint(1, 40) for _ in range(chance.randint(1, 12)))
                seats = given(chance, method, votes, chance.randint(0, 30))
                for many, own in zip(votes, seats):
                    self.assertLess(Fraction(many * sum(seats), sum(votes)), own + 1)

    def test_no_transfer_with_divisors_as_1_3_5(self):
        # Point 91, with whatever number of parties.
        chance = random.Random(91)
        for method in (LAGUE, ((3, 9), 6), ((500,), 1000)):
            for _ in range(100):
                votes = tuple(chance.randint(1, 40) for _ in range(chance.randint(2, 12)))
                seats = given(chance, method, votes, chance.randint(0, 30))
                told = [Fraction(many * sum(seats), sum(votes)) for many in votes]
                givers = any(own and share < own - HALF for share, own in zip(told, seats))
                takers = any(share > own + HALF for share, own in zip(told, seats))
                self.assertFalse(givers and takers, (votes, seats))

    def test_valid_seats_of_few_parties(self):
        # Points 89 and 91, by the functions of quotas.
        below, near = 0, 0
        for method, votes, house in sample(93, 250, 3):
            for seats in all_valid(method, votes, house):
                if below_quota(votes, seats):
                    below += 1
                    self.assert_exactly(goes_below(method), True)
                if first_transfer(votes, seats) is not None:
                    near += 1
                    self.assert_exactly(is_always_near(method), False)
        self.assertGreater(below, 5)
        self.assertGreater(near, 5)
        for method in (HONDT, LAGUE):
            for _, votes, house in sample(94, 150, 3):
                for seats in all_valid(method, votes, house):
                    if method == HONDT:
                        self.assert_exactly(below_quota(votes, seats), ())
                    else:
                        self.assert_exactly(first_transfer(votes, seats), None)

    def test_what_is_accepted_is_so(self):
        # Point 88: for all parties together.
        met = 0
        for method in EDGES + tuple(small_methods(3, 2)):
            for value, sign in ((below_evidence(method), 1), (above_evidence(method), -1)):
                if value is None or value[1] > 40 or max(value[3:]) > 20:
                    continue
                met += 1
                votes, seats = spread(value)
                self.assertTrue(has_key(method, votes, seats))
                share = Fraction(votes[0] * sum(seats), sum(votes))
                self.assertGreaterEqual(sign * (share - seats[0]), 1)
        self.assertGreater(met, 50)


class JudgeTest(Checks, unittest.TestCase):
    def test_other_evidence(self):
        chance = random.Random(88)
        met = [0, 0, 0]
        for _ in range(1500):
            method = small_method(chance)
            value = (
                chance.randint(1, 12),
                chance.randint(1, 12),
                chance.randint(1, 12),
                chance.randint(0, 4),
                chance.randint(0, 4),
            )
            pair = ((value[0], value[2]), value[3:])
            told = [is_below(method, value), is_above(method, value), is_not_near(method, pair)]
            self.assert_exactly(accepts_below(method, value), told[0])
            self.assert_exactly(accepts_above(method, value), told[1])
            self.assert_exactly(accepts_not_near(method, pair), told[2])
            met = [many + good for many, good in zip(met, told)]
            # Whoever wrote it, it is so.
            if told[0]:
                self.assert_exactly(goes_below(method), True)
            if told[2]:
                self.assert_exactly(is_always_near(method), False)
        self.assertGreater(min(met), 20)

    def test_nothing_shows_what_is_not_so(self):
        # Points 89 and 91.
        seats = list(itertools.product(range(5), repeat=2))
        for votes in range(1, 12):
            for other in range(1, 12):
                for one, each in seats:
                    for many in (1, 2, 30, HUGE):
                        value = (votes, many, other, one, each)
                        self.assert_exactly(accepts_below(HONDT, value), False)
                    pair = ((votes, other), (one, each))
                    self.assert_exactly(accepts_not_near(LAGUE, pair), False)

    def test_all_with_small_numbers(self):
        for method in (LAGUE, HONDT, ((1, 1), 1), ((2, 3), 3)):
            for value in itertools.product((1, 2, 3), (1, 2, 5), (1, 2, 4), range(4), range(4)):
                self.assert_exactly(accepts_below(method, value), is_below(method, value))
                self.assert_exactly(accepts_above(method, value), is_above(method, value))
                pair = ((value[0], value[2]), value[3:])
                self.assert_exactly(accepts_not_near(method, pair), is_not_near(method, pair))

    def test_just_at_the_quota(self):
        # 2 votes against many with 1: with each seat of theirs the quota comes nearer to 3.
        flat = ((1,), 1000)
        for many in range(1, 30):
            value = (2, many, 1, 1, 1)
            good = Fraction(2 * (many + 1), many + 2) >= 2
            self.assert_exactly(accepts_below(flat, value), good)
        for many in range(1, 30):
            value = (11, many, 5, 1, 1)
            good = Fraction(11 * (many + 1), 11 + 5 * many) >= 2
            self.assert_exactly(accepts_below(LAGUE, value), good)
            self.assert_exactly(accepts_below(LAGUE, (11, many, 5, 1, 1)), many >= 11)
        # 5 votes and 2 seats against many with 1 and none.
        for many in range(1, 30):
            value = (5, many, 1, 2, 0)
            self.assert_exactly(accepts_above(HONDT, value), many >= 5)

    def test_just_valid(self):
        # The last seat of the one party has a quotient of half its votes.
        for votes in range(1, 12):
            value = (votes, 100, 3, 2, 0)
            self.assert_exactly(accepts_above(HONDT, value), votes >= 6)
        # Its next seat has one of a third of its votes, and the others have one for each.
        for votes in range(1, 30):
            value = (votes, 1000, 5, 1, 1)
            self.assert_exactly(accepts_below(LAGUE, value), 11 <= votes <= 15)
        for votes in range(1, 30):
            value = ((votes, 2), (2, 0))
            good = votes >= 4 and Fraction(2 * votes, votes + 2) < Fraction(3, 2)
            self.assert_exactly(accepts_not_near(HONDT, value), good)
            self.assert_exactly(good, votes in (4, 5))

    def test_just_half_a_seat_away(self):
        # The quotas are 3/2 and 1/2, then a bit less and a bit more.
        flat = ((1, 1), 1)
        self.assert_exactly(accepts_not_near(flat, ((3, 1), (2, 0))), False)
        self.assert_exactly(accepts_not_near(flat, ((3 * HUGE - 1, HUGE), (2, 0))), True)
        self.assert_exactly(accepts_not_near(flat, ((3 * HUGE + 1, HUGE), (2, 0))), False)
        self.assert_exactly(accepts_not_near(flat, ((HUGE, 3 * HUGE - 1), (0, 2))), False)

    def test_seats_from_0_to_100(self):
        flat = ((1,), 1)
        for own in (-1, 0, 1, 99, 100, 101, HUGE):
            # So many votes against one with a vote, and as many seats.
            value = (max(own, 1), 1, 1, own, 0)
            shares = ((max(own, 1), 1), (own, 0))
            self.assert_exactly(accepts_above(flat, value), False)
            # With many others of one vote each the quota is small.
            value = (max(own, 1), HUGE, 1, own, 0)
            self.assert_exactly(accepts_above(flat, value), 2 <= own <= 100)
            near = 2 <= own <= 100 and is_transfer(*shares)
            self.assert_exactly(accepts_not_near(flat, shares), near)
        steep = ((1,), 1000)
        for each in (-1, 0, 1, 99, 100, 101, HUGE):
            low, high = 1, 1000 * max(each, 0) + 1
            value = (high, HUGE, low, 0, each)
            self.assert_exactly(accepts_below(steep, value), False)
            # With equal divisors nobody needs more votes for more seats.
            value = (HUGE, HUGE, HUGE + 1, 0, each)
            self.assert_exactly(accepts_below(((1,) * 6, 1), value), 1 < each <= 6)
        for each in (99, 100, 101):
            value = (1000, 10**9, 1000 + each - 1, 0, each)
            self.assert_exactly(accepts_below(((1000,), 1), value), each <= 100)
            value = (1000, 10**9, 1000 + each - 2, 0, each)
            self.assert_exactly(accepts_below(((1000,), 1), value), False)
            pair = ((1000 + each - 1, 1000), (each, 0))
            self.assert_exactly(accepts_not_near(((1000,), 1), pair), each <= 100)
            pair = ((1000, 1000 + each), (0, each))
            self.assert_exactly(accepts_not_near(((1000,), 1), pair), False)
        for own in (99, 100, 101):
            # The one party has own seats, of which the last one is just so dear.
            value = (1000 + own - 1, 10**9, 1000, own, 0)
            self.assert_exactly(accepts_above(((1000,), 1), value), own <= 100)
            value = (1000 + own - 2, 10**9, 1000, own, 0)
            self.assert_exactly(accepts_above(((1000,), 1), value), False)

    def test_numbers_of_whatever_size(self):
        for times in (1, 10**9, HUGE):
            value = (11 * times, 11, 5 * times, 1, 1)
            self.assert_exactly(accepts_below(LAGUE, value), True)
            self.assert_exactly(accepts_below(LAGUE, (11 * times, 11 * times, 5 * times, 1, 1)), True)
            self.assert_exactly(accepts_below(LAGUE, (11 * times - 1, 11, 5 * times, 1, 1)), False)
            self.assert_exactly(accepts_above(HONDT, (5 * times, 5 * times, 1, 2, 0)), True)
            self.assert_exactly(accepts_above(HONDT, (5 * times + 1, 5 * times, 1, 2, 0)), False)
            pair = ((5 * times, 2 * times), (2, 0))
            self.assert_exactly(accepts_not_near(HONDT, pair), True)
        for wrong in (0, -1, -HUGE):
            self.assert_exactly(accepts_below(LAGUE, (wrong, 11, 5, 1, 1)), False)
            self.assert_exactly(accepts_below(LAGUE, (11, wrong, 5, 1, 1)), False)
            self.assert_exactly(accepts_below(LAGUE, (11, 11, wrong, 1, 1)), False)
            self.assert_exactly(accepts_above(HONDT, (wrong, 5, 1, 2, 0)), False)
            self.assert_exactly(accepts_above(HONDT, (5, wrong, 1, 2, 0)), False)
            self.assert_exactly(accepts_above(HONDT, (5, 5, wrong, 2, 0)), False)
            self.assert_exactly(accepts_not_near(HONDT, ((wrong, 2), (2, 0))), False)
            self.assert_exactly(accepts_not_near(HONDT, ((5, wrong), (2, 0))), False)

    def test_no_votes_and_no_parties(self):
        for numbers in itertools.product((-1, 0, 1), repeat=3):
            if min(numbers) == 1:
                continue
            for seats in itertools.product(range(4), repeat=2):
                for method in (HONDT, LAGUE, ((1, 1), 1)):
                    self.assert_exactly(accepts_below(method, numbers + seats), False)
                    self.assert_exactly(accepts_above(method, numbers + seats), False)
                    pair = (numbers[::2], seats)
                    if min(pair[0]) < 1:
                        self.assert_exactly(accepts_not_near(method, pair), False)

    def test_no_seat_to_be_above_with(self):
        for many in (1, 2, HUGE):
            for votes in (1, 7):
                self.assert_exactly(accepts_above(HONDT, (votes, many, 7, 0, 0)), False)
                self.assert_exactly(accepts_above(HONDT, (votes, many, 7, 0, 1)), False)
                self.assert_exactly(accepts_above(HONDT, (votes, many, 1, 1, 0)), False)

    def test_other_values(self):
        wrong = OTHER_KINDS + (
            0,
            (),
            (11, 11, 5, 1),
            (11, 11, 5, 1, 1, 1),
            [11, 11, 5, 1, 1],
            (11, 11, 5, (1, 1)),
            ((11, 11, 5), 1, 1),
            (11, 11, 5, 1, True),
            (11, 11, 5, True, 1),
            (True, 11, 5, 1, 1),
            (11, True, 5, 1, 1),
            (11, 11, True, 1, 1),
            (11, 11, 5, 1, None),
            (11.0, 11, 5, 1, 1),
            (11, 11, 5, 1.0, 1),
            (11, 11, 5, 1, 1.0),
            ("11", 11, 5, 1, 1),
            ((11,), 11, 5, 1, 1),
            (5, 5, 1, 2, False),
            [(5, 2), (2, 0)],
            ([5, 2], (2, 0)),
            ((5, 2), [2, 0]),
            ((5, 2),),
            ((5, 2), (2, 0), ()),
            ((5, 2), (2, 0, 0)),
            ((5, 2), (2,)),
            ((5, 2, 1), (2, 0, 0)),
            ((5,), (2,)),
            ((), ()),
            ((5, 2), (2, False)),
            ((5, 2), None),
            (None, (2, 0)),
            ((5.0, 2), (2, 0)),
            ((5, 2), (2.0, 0)),
            ("52", "20"),
            (5, 2),
            (5, 2, 2, 0),
        )
        for value in wrong:
            for method in (HONDT, LAGUE):
                for judge in (accepts_below, accepts_above, accepts_not_near):
                    self.assert_exactly(judge(method, value), False)

    def test_twisted(self):
        chance = random.Random(95)
        methods = (HONDT, LAGUE, MODIFIED) + tuple(small_method(chance) for _ in range(25))
        judges = (
            (accepts_below, is_below, below_evidence, (11, 11, 5, 1, 1)),
            (accepts_above, is_above, above_evidence, (5, 5, 1, 2, 0)),
            (accepts_not_near, is_not_near, near_evidence, ((5, 2), (2, 0))),
        )
        for method in methods:
            for judge, right, tell, other in judges:
                told = tell(method)
                self.assert_judged(
                    lambda value: judge(method, value),
                    lambda value: right(method, value),
                    told if told is not None else other,
                )

    def test_wrong_arguments(self):
        for judge in (accepts_below, accepts_above):
            self.assert_checked(judge, [METHOD_ROW, ("value", (11, 11, 5, 1, 1), None)])
        self.assert_checked(accepts_not_near, [METHOD_ROW, ("value", ((5, 2), (2, 0)), None)])


if __name__ == "__main__":
    unittest.main()
