"""Points 74 to 83: parties that merge, and what they lose or gain."""

import itertools
import random
import unittest
from fractions import Fraction

from dividedseats.mergers import (
    first_short_pair,
    is_alone,
    is_gain,
    is_loss,
    merged_votes,
    told_gain,
    told_loss,
)
from dividedseats.methods import multiplied
from support import (
    HONDT,
    LAGUE,
    MODIFIED,
    OTHER_KINDS,
    WRONG_METHODS,
    WRONG_SEATS,
    WRONG_VOTES,
    Checks,
    all_seats,
    all_shares,
    all_valid,
    has_key,
    plain_divisors,
    sample,
    small_method,
    small_methods,
    some_seats,
    wrong_integers,
)

EDGES = (
    HONDT,
    LAGUE,
    MODIFIED,
    ((2, 4, 6), 2),
    ((1,) * 6, 1),
    ((1,) * 6, 1000),
    ((1,), 1000),
    ((1000,), 1),
    ((1000,), 1000),
    ((1000,) * 6, 1),
    ((1000,) * 6, 1000),
    ((1, 1000), 1),
    ((1, 1000), 1000),
    ((2, 2, 5), 1),
    ((5, 5, 5, 5, 5, 11), 1),
    ((5, 5, 5, 5, 5, 10), 1),
    ((5, 5, 5, 5, 5, 9), 1),
    ((5, 5, 6), 1),
    ((1, 1, 1, 1, 1, 1000), 1000),
    ((1000, 1000, 1000, 1000, 1000, 1000), 999),
)
LOSS = ((7, 7, 5), 0, 1, (1, 1, 0), (1, 1))
GAIN = ((3, 3, 5), 0, 1, (0, 0, 1), (1, 0))
MILLIONS = 100000000

METHOD_ROW = ("method", HONDT, WRONG_METHODS)


def merged(votes, one, other):
    row = list(votes)
    row[one] += row.pop(other)
    return tuple(row)


def is_form(value):
    """Whether the value has the form of a loss or a gain. Its integers are integers."""
    if len(value) != 5:
        return False
    votes, one, other, seats, later = value
    if not all(isinstance(row, tuple) for row in (votes, seats, later)):
        return False
    if not 1 <= len(votes) <= 5 or not 1 <= min(votes) or max(votes) > 10**9:
        return False
    if not 0 <= one < other < len(votes):
        return False
    for row, many in ((seats, len(votes)), (later, len(votes) - 1)):
        if len(row) != many or min(row) < 0 or sum(row) > 14:
            return False
    return sum(seats) == sum(later)


def plain_alone(method, votes, seats):
    """Each last quotient is greater than each next one of another party."""
    row = plain_divisors(method, 20)
    return all(
        Fraction(votes[i], row[seats[i] - 1]) > Fraction(votes[j], row[seats[j]])
        for i, j in itertools.permutations(range(len(votes)), 2)
        if seats[i]
    )


def changes(method, value):
    """By how many seats the merged party surely has more, or None if the value tells nothing."""
    votes, one, other, seats, later = value
    both = merged(votes, one, other)
    if not plain_alone(method, votes, seats) or not has_key(method, both, later):
        return None
    row = plain_divisors(method, 20)
    change = later[one] - seats[one] - seats[other]
    others = [party for party in range(len(both)) if party != one]
    following = Fraction(both[one], row[later[one]])
    if change < 0:
        sure = all(
            following < Fraction(both[party], row[later[party] - 1])
            for party in others
            if later[party]
        )
    elif change > 0:
        last = Fraction(both[one], row[later[one] - 1])
        sure = all(last > Fraction(both[party], row[later[party]]) for party in others)
    else:
        return 0
    return change if sure else None


def loses(method, value):
    return is_form(value) and (changes(method, value) or 0) < 0


def gains(method, value):
    return is_form(value) and (changes(method, value) or 0) > 0


def plain_short(method):
    """The first short pair of all those of small indexes."""
    row = plain_divisors(method, 32)
    pairs = [(a, b) for a in range(15) for b in range(15) if row[a] + row[b] < row[a + b + 1]]
    return min(pairs, key=lambda pair: (sum(pair), pair[0])) if pairs else None


def plain_loss(method):
    """Point 79, word by word."""
    short = plain_short(method)
    if short is None:
        return None
    row = plain_divisors(method, 32)
    a, b = [max(k for k in range(30) if row[k] == row[index]) for index in short]
    m = row[a + b + 1]
    g = m - row[a] - row[b]
    x = Fraction(m, row[0]).__floor__()
    k = max(2, Fraction(x + 2, g).__floor__() + 1)
    votes = (k * row[a] + 1, k * row[b] + 1, k * row[0] - 1)
    seats = (a + 1, b + 1, 0)
    return votes, 0, 1, seats, all_valid(method, (votes[0] + votes[1], votes[2]), sum(seats))[0]


def mergers(chance, method, house, most_votes):
    """Votes with seats that are alone, and the valid seats behind each merger."""
    votes = tuple(chance.randint(1, most_votes) for _ in range(chance.randint(2, 4)))
    valid = all_valid(method, votes, house)
    if len(valid) == 1:
        for one, other in itertools.combinations(range(len(votes)), 2):
            both = merged(votes, one, other)
            yield votes, one, other, valid[0], all_valid(method, both, house)


class ExampleTest(Checks, unittest.TestCase):
    def test_of_the_interface(self):
        self.assert_exactly(first_short_pair(HONDT), None)
        self.assert_exactly(first_short_pair(LAGUE), (0, 0))
        self.assert_exactly(first_short_pair(((2, 2, 5), 1)), (0, 1))
        self.assert_exactly(first_short_pair(((7,), 10)), (0, 0))
        self.assert_exactly(told_loss(LAGUE), LOSS)
        self.assert_exactly(told_loss(HONDT), None)
        self.assert_exactly(told_loss(((2, 2, 5), 1)), ((7, 7, 5), 0, 1, (2, 2, 0), (3, 1)))
        self.assert_exactly(told_gain(HONDT), GAIN)
        self.assert_exactly(is_loss(LAGUE, told_loss(LAGUE)), True)
        self.assert_exactly(is_gain(HONDT, GAIN), True)
        self.assert_exactly(is_loss(HONDT, told_loss(LAGUE)), False)
        self.assert_exactly(merged_votes((5, 4, 3), 0, 2), (8, 4))
        self.assert_exactly(is_alone(HONDT, (7, 4, 1), (2, 1, 0)), True)
        self.assert_exactly(is_alone(HONDT, (2, 1), (1, 0)), True)
        self.assert_exactly(is_alone(HONDT, (2, 1), (2, 0)), False)

    def test_of_point_83(self):
        self.assert_exactly(first_short_pair(LAGUE), (0, 0))
        self.assert_exactly(is_alone(LAGUE, (7, 7, 5), (1, 1, 0)), True)
        self.assert_exactly(merged_votes((7, 7, 5), 0, 1), (14, 5))
        self.assert_exactly(is_alone(LAGUE, (14, 5), (1, 1)), True)
        self.assert_exactly(is_loss(LAGUE, LOSS), True)


class MergedVotesTest(Checks, unittest.TestCase):
    def test_all_pairs(self):
        for votes in ((5, 4), (5, 4, 3), (9, 8, 7, 6), (1, 1000000, 2, 3, 1000000)):
            for one, other in itertools.combinations(range(len(votes)), 2):
                told = merged_votes(votes, one, other)
                self.assert_exactly(told, merged(votes, one, other))
        self.assert_exactly(merged_votes((1000000, 1000000), 0, 1), (2000000,))
        self.assert_exactly(merged_votes((1, 2, 3, 4, 5), 3, 4), (1, 2, 3, 9))
        self.assert_exactly(merged_votes((1, 2, 3, 4, 5), 0, 4), (6, 2, 3, 4))

    def test_wrong_arguments(self):
        self.assert_checked(merged_votes, [
            ("votes", (7, 4, 1), WRONG_VOTES),
            ("one", 1, wrong_integers(0, 2)),
            ("other", 2, wrong_integers(2, 2)),
        ])
        self.assert_bad("one", merged_votes, (), 0, 1)
        for other in (-1, 0, 1):
            self.assert_bad("other", merged_votes, (5,), 0, other)
        # Nobody stands behind the last party.
        for other in range(-1, 5):
            self.assert_bad("other", merged_votes, (5, 4, 3), 2, other)
        self.assert_bad("other", merged_votes, (5, 4, 3), 1, 0)
        self.assert_bad("other", merged_votes, (5, 4, 3), 1, 1)


class AloneTest(Checks, unittest.TestCase):
    def test_no_other_seats_are_valid(self):
        # Point 75.
        for method, votes, house in sample(75, 100, 4):
            valid = all_valid(method, votes, house)
            for seats in valid[:4]:
                self.assert_exactly(is_alone(method, votes, seats), len(valid) == 1)
            for seats in all_seats(len(votes), house)[::3]:
                alone = valid == [seats]
                self.assert_exactly(is_alone(method, votes, seats), alone)

    def test_edges(self):
        self.assert_exactly(is_alone(HONDT, (), ()), True)
        for own in range(9):
            self.assert_exactly(is_alone(LAGUE, (1,), (own,)), True)
            self.assert_exactly(is_alone(((1,) * 6, 1), (1000000,), (own,)), True)
        self.assert_exactly(is_alone(HONDT, (5,) * 5, (0,) * 5), True)
        self.assert_exactly(is_alone(HONDT, (5,) * 5, (1,) * 5), True)
        self.assert_exactly(is_alone(HONDT, (5,) * 5, (2, 2, 2, 1, 1)), False)
        self.assert_exactly(is_alone(HONDT, (1, 1000000), (0, 8)), True)
        self.assert_exactly(is_alone(HONDT, (9, 1), (8, 0)), True)
        self.assert_exactly(is_alone(HONDT, (8, 1), (8, 0)), False)
        self.assert_exactly(is_alone(HONDT, (7, 1), (8, 0)), False)

    def test_wrong_arguments(self):
        self.assert_checked(is_alone, [
            METHOD_ROW,
            ("votes", (7, 4, 1), WRONG_VOTES),
            ("seats", (2, 1, 0), WRONG_SEATS),
        ])
        # Great votes and great seats are none of chapter 2.
        self.assert_bad("votes", is_alone, HONDT, (1000001, 1), (1, 0))
        self.assert_bad("seats", is_alone, HONDT, (5, 1), (9, 0))


class ShortPairTest(Checks, unittest.TestCase):
    def assert_right(self, method):
        pair = first_short_pair(method)
        self.assert_exactly(pair, plain_short(method))
        if pair is not None:
            self.assertLess(max(pair), len(method[0]))

    def test_edges(self):
        for method in EDGES:
            self.assert_right(method)
        self.assert_exactly(first_short_pair(((1,) * 6, 1000)), (0, 5))
        self.assert_exactly(first_short_pair(((5, 5, 5, 5, 5, 11), 1)), (0, 4))
        self.assert_exactly(first_short_pair(((5, 5, 5, 5, 5, 10), 1)), (1, 4))
        self.assert_exactly(first_short_pair(((5, 5, 5, 5, 5, 9), 1)), (2, 4))
        self.assert_exactly(first_short_pair(((5, 5, 6), 1)), None)
        self.assert_exactly(first_short_pair(((1000,), 1000)), None)
        self.assert_exactly(first_short_pair(((999,), 1000)), (0, 0))

    def test_all_small_ones(self):
        for method in small_methods(4, 4):
            self.assert_right(method)

    def test_by_chance(self):
        chance = random.Random(77)
        for most in (6, 30, 1000):
            for _ in range(150):
                firsts = sorted(chance.randint(1, most) for _ in range(chance.randint(1, 6)))
                self.assert_right((tuple(firsts), chance.randint(1, most)))

    def test_multiplied(self):
        chance = random.Random(78)
        for _ in range(60):
            method = small_method(chance)
            same = multiplied(method, 7)
            self.assert_exactly(first_short_pair(same), first_short_pair(method))


class ToldTest(Checks, unittest.TestCase):
    def assert_right(self, method):
        loss = told_loss(method)
        self.assert_exactly(loss, plain_loss(method))
        self.assertEqual(loss is None, plain_short(method) is None)
        if loss is not None:
            self.assert_exactly(is_loss(method, loss), True)
            self.assert_exactly(is_gain(method, loss), False)
            self.assertTrue(loses(method, loss))
        first = method[0][0]
        votes = (4 * first - 1, 4 * first - 1, 4 * first + 1)
        gain = told_gain(method)
        self.assert_exactly(gain, (votes, 0, 1, (0, 0, 1), (1, 0)))
        self.assert_exactly(is_gain(method, gain), True)
        self.assert_exactly(is_loss(method, gain), False)
        self.assertTrue(gains(method, gain))

    def test_edges(self):
        for method in EDGES:
            self.assert_right(method)

    def test_all_small_ones(self):
        for method in small_methods(4, 3):
            self.assert_right(method)

    def test_by_chance(self):
        chance = random.Random(79)
        for most in (6, 30, 1000):
            for _ in range(60):
                firsts = sorted(chance.randint(1, most) for _ in range(chance.randint(1, 6)))
                self.assert_right((tuple(firsts), chance.randint(1, most)))

    def test_wrong_arguments(self):
        for function in (first_short_pair, told_loss, told_gain):
            self.assert_checked(function, [METHOD_ROW])


class PropertiesTest(Checks, unittest.TestCase):
    def test_no_loss_without_a_short_pair(self):
        # Points 78 and 81.
        chance = random.Random(80)
        met = 0
        while met < 300:
            method = small_method(chance)
            if first_short_pair(method) is None:
                for votes, one, other, seats, valid in mergers(chance, method, chance.randint(1, 7), 12):
                    met += 1
                    for later in valid:
                        self.assertGreaterEqual(later[one], seats[one] + seats[other])
                        value = (votes, one, other, seats, later)
                        self.assert_exactly(is_loss(method, value), False)

    def test_what_is_accepted_is_so(self):
        # Point 76: with whichever valid seats of as many together.
        chance = random.Random(76)
        lost = gained = 0
        for _ in range(400):
            method = small_method(chance)
            for votes, one, other, seats, valid in mergers(chance, method, chance.randint(1, 7), 12):
                before = seats[one] + seats[other]
                fewer = all(later[one] < before for later in valid)
                more = all(later[one] > before for later in valid)
                for later in valid:
                    value = (votes, one, other, seats, later)
                    self.assert_exactly(is_loss(method, value), loses(method, value))
                    self.assert_exactly(is_gain(method, value), gains(method, value))
                    lost += is_loss(method, value)
                    gained += is_gain(method, value)
                    self.assertLessEqual(is_loss(method, value), fewer)
                    self.assertLessEqual(is_gain(method, value), more)
        self.assertGreater(lost, 10)
        self.assertGreater(gained, 50)

    def test_any_seats(self):
        chance = random.Random(82)
        for _ in range(600):
            method = small_method(chance)
            votes = tuple(chance.randint(1, 12) for _ in range(chance.randint(2, 4)))
            seats = some_seats(chance, len(votes), 4)
            later = some_seats(chance, len(votes) - 1, 4)
            one, other = sorted(chance.sample(range(len(votes)), 2))
            value = (votes, one, other, seats, later)
            self.assert_exactly(is_loss(method, value), loses(method, value))
            self.assert_exactly(is_gain(method, value), gains(method, value))


class JudgeTest(Checks, unittest.TestCase):
    def assert_told(self, value, method, lost, gained):
        self.assert_exactly(is_loss(method, value), lost)
        self.assert_exactly(is_gain(method, value), gained)

    def test_great_votes(self):
        # Both together have more than 1000000000.
        votes = (7 * MILLIONS, 7 * MILLIONS, 5 * MILLIONS)
        self.assert_told((votes, 0, 1, (1, 1, 0), (1, 1)), LAGUE, True, False)
        votes = (10**9, 10**9, 10**9 * 5 // 7)
        self.assert_told((votes, 0, 1, (1, 1, 0), (1, 1)), LAGUE, True, False)
        for at in range(3):
            wrong = votes[:at] + (10**9 + 1,) + votes[at + 1:]
            self.assert_told((wrong, 0, 1, (1, 1, 0), (1, 1)), LAGUE, False, False)
            wrong = votes[:at] + (0,) + votes[at + 1:]
            self.assert_told((wrong, 0, 1, (1, 1, 0), (1, 1)), LAGUE, False, False)
        votes = (6 * MILLIONS, 6 * MILLIONS, 10 * MILLIONS)
        self.assert_told((votes, 0, 1, (0, 0, 1), (1, 0)), HONDT, False, True)

    def test_least_votes(self):
        value = ((7, 7, 5, 1), 0, 1, (1, 1, 0, 0), (1, 1, 0))
        self.assert_told(value, LAGUE, True, False)
        value = ((1, 3, 2), 0, 2, (0, 1, 0), (0, 1))
        self.assert_told(value, HONDT, False, False)
        value = ((2, 3, 2), 0, 2, (0, 1, 0), (1, 0))
        self.assert_told(value, HONDT, False, True)

    def test_who_merges(self):
        # The first two and the last two of five parties, and two with others between them.
        self.assert_told(((7, 7, 5, 1, 1), 0, 1, (1, 1, 0, 0, 0), (1, 1, 0, 0)), LAGUE, True, False)
        self.assert_told(((1, 5, 1, 7, 7), 3, 4, (0, 0, 0, 1, 1), (0, 1, 0, 1)), LAGUE, True, False)
        self.assert_told(((7, 5, 1, 1, 7), 0, 4, (1, 0, 0, 0, 1), (1, 1, 0, 0)), LAGUE, True, False)
        self.assert_told(((3, 3, 5, 1, 1), 0, 1, (0, 0, 1, 0, 0), (1, 0, 0, 0)), HONDT, False, True)
        self.assert_told(((5, 1, 1, 3, 3), 3, 4, (1, 0, 0, 0, 0), (0, 0, 0, 1)), HONDT, False, True)
        for one, other in ((1, 0), (0, 0), (1, 1), (0, 2), (1, 2), (2, 1), (0, 3), (-1, 1), (-3, 1)):
            value = ((7, 7, 5), one, other, (1, 1, 0), (1, 1))
            self.assert_told(value, LAGUE, False, False)

    def test_numbers_of_parties(self):
        self.assert_told(((7,), 0, 1, (1,), ()), LAGUE, False, False)
        self.assert_told(((), 0, 1, (), ()), LAGUE, False, False)
        self.assert_told(((7, 7), 0, 1, (1, 1), (2,)), LAGUE, False, False)
        for many in range(6):
            small = (1,) * many
            none = (0,) * many
            value = ((7, 7, 5) + small, 0, 1, (1, 1, 0) + none, (1, 1) + none)
            self.assert_told(value, LAGUE, many <= 2, False)
            value = ((3, 3, 5) + small, 0, 1, (0, 0, 1) + none, (1, 0) + none)
            self.assert_told(value, HONDT, False, many <= 2)

    def test_14_and_15_seats(self):
        met = {13: 0, 14: 0, 15: 0, 16: 0}
        for house in met:
            for many, few in itertools.product(range(10, 40), range(1, 10)):
                votes = (many, many, 3, few)
                valid = all_shares(LAGUE, votes, house)
                if len(valid) != 1:
                    continue
                for later in all_shares(LAGUE, (2 * many, 3, few), house):
                    value = (votes, 0, 1, valid[0], later)
                    change = changes(LAGUE, value) or 0
                    met[house] += change != 0
                    good = house <= 14
                    self.assert_told(value, LAGUE, good and change < 0, good and change > 0)
        self.assertTrue(all(met.values()), met)

    def test_all_seats_of_one_party(self):
        # The 15th seat of a party is looked at, too.
        value = ((99, 1, 7), 0, 1, (14, 0, 0), (14, 0))
        self.assert_told(value, HONDT, False, False)
        value = ((1, 1, 27), 0, 1, (0, 0, 14), (1, 13))
        self.assert_told(value, HONDT, False, True)
        value = ((1, 1, 28), 0, 1, (0, 0, 14), (1, 13))
        self.assert_told(value, HONDT, False, False)

    def test_seats_must_be_alone(self):
        # A seat could as well be the third party's.
        self.assert_told(((7, 7, 7), 0, 1, (1, 1, 0), (1, 1)), LAGUE, False, False)
        self.assert_told(((5, 5, 5), 0, 1, (0, 0, 1), (1, 0)), HONDT, False, False)
        self.assert_told(((4, 4, 5), 0, 1, (0, 0, 1), (1, 0)), HONDT, False, True)

    def test_later_must_be_valid_and_sure(self):
        # Merged, the third seat is as well the other party's.
        self.assert_told(((7, 8, 5), 0, 1, (1, 1, 0), (1, 1)), LAGUE, False, False)
        self.assert_told(((7, 8, 5), 0, 1, (1, 1, 0), (2, 0)), LAGUE, False, False)
        self.assert_told(((7, 7, 5), 0, 1, (1, 1, 0), (0, 2)), LAGUE, False, False)
        self.assert_told(((3, 3, 6), 0, 1, (0, 0, 1), (1, 0)), HONDT, False, False)
        self.assert_told(((2, 3, 6), 0, 1, (0, 0, 1), (1, 0)), HONDT, False, False)

    def test_equal_divisors(self):
        # The next seat of the merged party has the same quotient as its last one.
        value = ((10, 10, 8), 0, 1, (2, 2, 1), (3, 2))
        self.assert_told(value, ((1, 1, 3, 3), 1), True, False)
        value = ((10, 10, 8), 0, 1, (2, 2, 1), (4, 1))
        self.assert_told(value, ((1, 1, 3, 3), 1), False, False)
        # They have one seat more, and could have had another one.
        value = ((5, 5, 7), 0, 1, (0, 0, 1), (1, 0))
        self.assert_told(value, ((2, 2), 1), False, True)

    def test_fewer_than_no_seats(self):
        # Right but for a party with one seat less than none, and another one with one more.
        value = ((7, 7, 5, 1), 0, 1, (1, 1, 1, -1), (1, 1, 0))
        self.assert_told(value, LAGUE, False, False)
        value = ((7, 7, 5, 1), 0, 1, (1, 1, 0, 0), (1, 2, -1))
        self.assert_told(value, LAGUE, False, False)
        value = ((3, 3, 5, 1), 0, 1, (0, 0, 2, -1), (1, 0, 0))
        self.assert_told(value, HONDT, False, False)
        value = ((3, 3, 5, 1), 0, 1, (0, 0, 1, 0), (2, 0, -1))
        self.assert_told(value, HONDT, False, False)

    def test_as_many_together(self):
        for later in ((1, 0), (0, 1), (1, 2), (2, 1), (0, 0), (0, 15)):
            self.assert_told(((7, 7, 5), 0, 1, (1, 1, 0), later), LAGUE, False, False)
        for later in ((2, 0), (0, 0), (1, 1), (0, 1), (-1, 2), (2, -1)):
            self.assert_told(((3, 3, 5), 0, 1, (0, 0, 1), later), HONDT, False, False)

    def test_other_forms(self):
        wrong = [
            LOSS[:4],
            LOSS + (0,),
            LOSS[::-1],
            list(LOSS),
            ([7, 7, 5], 0, 1, (1, 1, 0), (1, 1)),
            ((7, 7, 5), 0, 1, [1, 1, 0], (1, 1)),
            ((7, 7, 5), 0, 1, (1, 1, 0), [1, 1]),
            ((7, 7, 5), False, True, (1, 1, 0), (1, 1)),
            ((7, 7, 5), False, 1, (1, 1, 0), (1, 1)),
            ((7, 7, 5), 0, True, (1, 1, 0), (1, 1)),
            ((7, 7, 5), 0, 1, (True, 1, 0), (1, 1)),
            ((7, 7, 5), 0, 1, (1, 1, False), (1, 1)),
            ((7, 7, 5), 0, 1, (1, 1, 0), (1, True)),
            ((7, 7, 5), 0, 1, (1, 1), (1, 1)),
            ((7, 7, 5), 0, 1, (1, 1, 0, 0), (1, 1)),
            ((7, 7, 5), 0, 1, (1, 1, 0), (1, 1, 0)),
            ((7, 7, 5), 0, 1, (1, 1, 0), (2,)),
            ((7, 7, 5), 0, 1, (1, 1, 0), ()),
            ((7, 7, 5), (0, 1), (1, 1, 0), (1, 1)),
            ((7, 7, 5), None, 1, (1, 1, 0), (1, 1)),
            (None, 0, 1, (1, 1, 0), (1, 1)),
            ((7, 7, 5), 0, 1, None, (1, 1)),
            ((7, 7, 5), 0, 1, (1, 1, 0), None),
            ("775", 0, 1, "110", "11"),
            (("7", "7", "5"), 0, 1, (1, 1, 0), (1, 1)),
            ((7.0, 7, 5), 0, 1, (1, 1, 0), (1, 1)),
            ((7, 7, 5), 0.0, 1.0, (1, 1, 0), (1, 1)),
            ((7, 7, 5), 0, 1, (1.0, 1, 0), (1, 1)),
        ]
        for value in tuple(wrong) + OTHER_KINDS + (0, ()):
            self.assert_told(value, LAGUE, False, False)
            self.assert_told(value, HONDT, False, False)

    def test_twisted(self):
        chance = random.Random(83)
        values = [(LAGUE, LOSS), (HONDT, GAIN), (LAGUE, GAIN)]
        for _ in range(25):
            method = small_method(chance)
            values += [(method, told_gain(method))]
            if told_loss(method) is not None:
                values += [(method, told_loss(method))]
        values += [(LAGUE, ((1, 5, 1, 7, 7), 3, 4, (0, 0, 0, 1, 1), (0, 1, 0, 1)))]
        for method, value in values:
            for judge, plain in ((is_loss, loses), (is_gain, gains)):
                self.assert_judged(
                    lambda value: judge(method, value),
                    lambda value: plain(method, value),
                    value,
                )

    def test_other_methods(self):
        # Point 13: in some ratio, they have the same losses and gains.
        chance = random.Random(84)
        for _ in range(60):
            method = small_method(chance)
            same = multiplied(method, chance.randint(1, 9))
            for value in (told_loss(method), told_gain(method), LOSS, GAIN):
                self.assert_exactly(is_loss(same, value), is_loss(method, value))
                self.assert_exactly(is_gain(same, value), is_gain(method, value))

    def test_wrong_arguments(self):
        for function in (is_loss, is_gain):
            self.assert_checked(function, [METHOD_ROW, ("value", LOSS, None)])


if __name__ == "__main__":
    unittest.main()
