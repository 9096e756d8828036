"""Points 96 to 105: how many votes more or less change the seats of a party."""

import itertools
import random
import unittest
from fractions import Fraction

from dividedseats.margins import accepts_margin, margin, margin_evidence
from support import (
    HONDT,
    LAGUE,
    MODIFIED,
    OTHER_KINDS,
    WRONG_METHODS,
    WRONG_SEATS,
    WRONG_VOTES,
    Checks,
    all_seats,
    all_valid,
    has_key,
    plain_divisors,
    sample,
    small_methods,
    wrong_integers,
)

WORDS = ("can gain", "must gain", "can lose", "must lose")
FLAT = ((1,) * 6, 1)
STEEP = ((1,), 1000)
EDGES = (HONDT, LAGUE, MODIFIED, FLAT, STEEP, ((1000,), 1), ((5, 5, 9), 3), ((1, 1000), 1000))
VOTES, SEATS = (7, 4, 1), (2, 1, 0)
HUGE = 10**60

WRONG_WORDS = OTHER_KINDS + (
    0,
    (),
    "can",
    "gain",
    "lose",
    "Can gain",
    "can  gain",
    "can gain ",
    " must lose",
    "can_gain",
    "cannot gain",
    b"can gain",
    ("can gain",),
    ["can gain"],
    WORDS,
)
WRONG_MANY = OTHER_KINDS + ((), (3,), [3], "3", 3.0, -1, -HUGE)
ROWS = [
    ("method", HONDT, WRONG_METHODS),
    ("votes", VOTES, WRONG_VOTES),
    ("seats", SEATS, WRONG_SEATS),
    ("party", 1, wrong_integers(0, 2)),
    ("word", "can gain", WRONG_WORDS),
]


def altered(votes, party, word, many):
    """The votes with so many more, or fewer, for the party, as the word asks."""
    row = list(votes)
    row[party] += many if word.endswith("gain") else -many
    return tuple(row)


def holds(method, votes, house, party, own, word):
    """Point 97, by all valid seats."""
    found = [seats[party] for seats in all_valid(method, votes, house)]
    if word.endswith("gain"):
        told = [number > own for number in found]
    else:
        told = [number < own for number in found]
    return all(told) if word.startswith("must") else any(told)


def surely(method, votes, seats, party, limit, more):
    """Point 99, by quotients."""
    if not has_key(method, votes, seats) or (seats[party] > limit) != more:
        return False
    row = plain_divisors(method, 10)
    own = Fraction(votes[party], row[limit])
    others = [other for other in range(len(votes)) if other != party]
    if more:
        return all(own > Fraction(votes[other], row[seats[other]]) for other in others)
    return all(
        own < Fraction(votes[other], row[seats[other] - 1]) for other in others if seats[other]
    )


def are_seats(value, votes, house):
    if not isinstance(value, tuple) or len(value) != len(votes):
        return False
    return min(value) >= 0 and sum(value) == house


def is_claim(method, votes, seats, party, word, value, true):
    """Whether the value shows that the word is true, or that it is not, with these votes."""
    if not are_seats(value, votes, sum(seats)):
        return False
    own = seats[party]
    gains = word.endswith("gain")
    limit = own if gains else own - 1
    if word.startswith("must") == true:
        return surely(method, votes, value, party, limit, gains == true)
    return has_key(method, votes, value) and (value[party] > limit) == (gains == true)


def is_evidence(method, votes, seats, party, word, many, value):
    """Point 100, in another way. The integers of the value are integers."""
    if len(value) != 2:
        return False
    if word.endswith("lose") and (seats[party] == 0 or many >= votes[party]):
        return False
    then = altered(votes, party, word, many)
    if not is_claim(method, then, seats, party, word, value[0], True):
        return False
    if many == 0:
        return value[1] is None
    then = altered(votes, party, word, many - 1)
    return is_claim(method, then, seats, party, word, value[1], False)


def questions(seed, many, parties, house):
    """Methods, votes, valid seats and a party, drawn, with all words."""
    chance = random.Random(seed)
    for method, votes, _ in sample(seed, many, parties):
        if votes:
            valid = all_valid(method, votes, chance.randint(0, house))
            for word in WORDS:
                yield method, votes, chance.choice(valid), chance.randrange(len(votes)), word


class ExampleTest(Checks, unittest.TestCase):
    def test_of_the_interface(self):
        self.assert_exactly(margin(HONDT, VOTES, SEATS, 1, "can gain"), 3)
        self.assert_exactly(margin(HONDT, VOTES, SEATS, 1, "must gain"), 4)
        self.assert_exactly(margin(HONDT, VOTES, SEATS, 1, "can lose"), 2)
        self.assert_exactly(margin(HONDT, VOTES, SEATS, 2, "can lose"), None)
        self.assert_exactly(margin(HONDT, VOTES, SEATS, 1, "must lose"), 2)
        self.assert_exactly(margin(HONDT, (7,), (3,), 0, "can gain"), None)
        pair = ((1, 2, 0), (2, 1, 0))
        for word, many, good in (("can gain", 3, True), ("must gain", 4, True), ("can gain", 2, False)):
            told = accepts_margin(HONDT, VOTES, SEATS, 1, word, many, pair)
            self.assert_exactly(told, good)

    def test_of_point_105(self):
        self.assertTrue(has_key(HONDT, VOTES, SEATS))
        self.assert_exactly(margin(HONDT, VOTES, SEATS, 1, "can gain"), 3)
        self.assertTrue(holds(HONDT, (7, 7, 1), 3, 1, 1, "can gain"))
        self.assertFalse(holds(HONDT, (7, 6, 1), 3, 1, 1, "can gain"))


class MarginTest(Checks, unittest.TestCase):
    def assert_right(self, method, votes, seats, party, word):
        """The word is true from the margin on, and with no lesser number."""
        told = margin(method, votes, seats, party, word)
        own, house = seats[party], sum(seats)
        if told is None:
            far = 10**7 if word.endswith("gain") else votes[party] - 1
            tried, good = (0, 1, far // 2, far), False
        else:
            self.assertIs(type(told), int)
            self.assertGreaterEqual(told, 0)
            tried, good = (told, told + 1, told + 2, 2 * told + 7, told + 10**7), True
            lesser = {told - 1, told - 2, told // 2, 0} - {told}
            self.assert_words(method, votes, house, party, own, word, lesser, False)
        self.assert_words(method, votes, house, party, own, word, tried, good)
        self.assert_evidence(method, votes, seats, party, word, told)
        return told

    def assert_words(self, method, votes, house, party, own, word, tried, good):
        for many in tried:
            then = altered(votes, party, word, many)
            if many >= 0 and then[party] >= 1:
                self.assertEqual(holds(method, then, house, party, own, word), good, (votes, many))

    def assert_evidence(self, method, votes, seats, party, word, told):
        value = margin_evidence(method, votes, seats, party, word)
        self.assertEqual(value is None, told is None)
        if told is None:
            return
        self.assertIs(type(value), tuple)
        self.assertEqual(value[1] is None, told == 0)
        self.assertTrue(is_evidence(method, votes, seats, party, word, told, value))
        for many in (told, told + 1, abs(told - 1)):
            good = accepts_margin(method, votes, seats, party, word, many, value)
            self.assert_exactly(good, many == told)

    def test_all_small_ones(self):
        met = dict.fromkeys(WORDS, 0)
        for method in small_methods(2, 2):
            for parties in (1, 2, 3):
                for votes in itertools.product((1, 2, 4), repeat=parties):
                    for house in range(4):
                        for seats in all_valid(method, votes, house):
                            for party, word in itertools.product(range(parties), WORDS):
                                if (sum(votes) + party) % 3 == 0 or parties < 3:
                                    self.assert_right(method, votes, seats, party, word)
                                    met[word] += 1
        self.assertGreater(min(met.values()), 500)

    def test_drawn_ones(self):
        for question in questions(98, 90, 4, 5):
            self.assert_right(*question)

    def test_five_parties_and_eight_seats(self):
        for method in (HONDT, LAGUE, FLAT):
            for votes in ((1000000,) * 5, (1, 1000000, 3, 999999, 2)):
                valid = all_valid(method, votes, 8)
                for party, word in itertools.product((0, 4), WORDS):
                    self.assert_right(method, votes, valid[-1], party, word)

    def test_every_number_below_the_margin(self):
        # Point 98.
        for method, votes, seats, party, word in questions(100, 30, 3, 4):
            told = margin(method, votes, seats, party, word)
            last = votes[party] - 1 if word.endswith("lose") else 40
            for many in range(last + 1):
                then = altered(votes, party, word, many)
                good = holds(method, then, sum(seats), party, seats[party], word)
                self.assertEqual(good, told is not None and many >= told)

    def test_all_edges(self):
        for method in EDGES:
            for votes in ((1,), (1, 1), (1, 1000000), (1000000, 1), (9, 9, 1)):
                for house in (0, 1, 3):
                    for seats in all_valid(method, votes, house):
                        for party, word in itertools.product(range(len(votes)), WORDS):
                            self.assert_right(method, votes, seats, party, word)

    def test_no_margin(self):
        # No other party has a seat: a single party, one with all seats, and no seats at all.
        for word in ("can gain", "must gain"):
            for own in range(9):
                self.assert_exactly(self.assert_right(HONDT, (5,), (own,), 0, word), None)
            self.assert_exactly(self.assert_right(HONDT, (9, 1), (8, 0), 0, word), None)
            self.assert_exactly(self.assert_right(HONDT, (9, 1), (0, 0), 0, word), None)
            self.assertIsNotNone(self.assert_right(HONDT, (9, 1), (8, 0), 1, word))
        for word in ("can lose", "must lose"):
            # Without a seat.
            self.assert_exactly(self.assert_right(HONDT, (9, 1), (8, 0), 1, word), None)
            self.assert_exactly(self.assert_right(HONDT, (9, 1), (0, 0), 0, word), None)
            # Not even with one vote.
            for own in range(9):
                self.assert_exactly(self.assert_right(HONDT, (5,), (own,), 0, word), None)
            self.assert_exactly(self.assert_right(HONDT, (9, 1), (1, 0), 0, "must lose"), None)
            self.assert_exactly(self.assert_right(((1, 1000), 1), (1, 2), (1, 1), 0, word), None)

    def test_margin_0(self):
        self.assert_exactly(self.assert_right(HONDT, (5, 5), (1, 0), 1, "can gain"), 0)
        self.assert_exactly(self.assert_right(HONDT, (5, 5), (1, 0), 1, "must gain"), 1)
        self.assert_exactly(self.assert_right(HONDT, (5, 5), (1, 0), 0, "can lose"), 0)
        self.assert_exactly(self.assert_right(HONDT, (5, 5), (1, 0), 0, "must lose"), 1)
        told = accepts_margin(HONDT, (5, 5), (1, 0), 1, "can gain", 0, ((0, 1), None))
        self.assert_exactly(told, True)
        for before in ((1, 0), (0, 1), (), 0, False, True, "", [], [None], (None,)):
            told = accepts_margin(HONDT, (5, 5), (1, 0), 1, "can gain", 0, ((0, 1), before))
            self.assert_exactly(told, False)
        told = accepts_margin(HONDT, (5, 5), (1, 0), 1, "must gain", 1, ((0, 1), None))
        self.assert_exactly(told, False)

    def test_all_votes_but_one(self):
        self.assert_exactly(self.assert_right(HONDT, (9, 1), (1, 0), 0, "can lose"), 8)
        self.assert_exactly(self.assert_right(HONDT, (9, 2), (1, 0), 0, "must lose"), 8)
        self.assert_exactly(self.assert_right(HONDT, (1000000, 1), (1, 0), 0, "can lose"), 999999)
        self.assert_exactly(self.assert_right(HONDT, (1, 1), (1, 0), 0, "can lose"), 0)
        # Evidence for votes of which none is left.
        for many in (8, 9, 10, HUGE):
            value = ((0, 1), (1, 0))
            told = accepts_margin(HONDT, (9, 1), (1, 0), 0, "can lose", many, value)
            self.assert_exactly(told, many == 8)
            told = accepts_margin(HONDT, (9, 1), (1, 0), 0, "must lose", many, value)
            self.assert_exactly(told, False)

    def test_far_beyond_the_most_votes(self):
        votes = (1, 1000000)
        self.assert_exactly(self.assert_right(STEEP, votes, (0, 1), 0, "can gain"), 999999)
        self.assert_exactly(self.assert_right(STEEP, votes, (0, 1), 0, "must gain"), 1000000)
        far = margin(STEEP, (1, 1000000), (0, 8), 0, "can gain")
        self.assertEqual(far, Fraction(1000000, 7001).__ceil__() - 1)
        votes = (1000000, 1000000)
        self.assert_exactly(self.assert_right(STEEP, votes, (1, 1), 0, "can gain"), 1001 * 10**6 - 10**6)
        told = self.assert_right(STEEP, votes, (4, 4), 0, "must gain")
        self.assertEqual(told, Fraction(4001 * 10**6, 3001).__floor__() + 1 - 10**6)
        told = self.assert_right(((1, 1000), 1000), (1000000, 1000000), (1, 1), 1, "must gain")
        self.assertEqual(told, 1000 * 10**6 + 1 - 10**6)

    def test_parties_without_seats_and_with_all(self):
        for method in (HONDT, LAGUE, FLAT, STEEP):
            for word in WORDS:
                self.assert_right(method, (1000, 1), (1, 0), 0, word)
                self.assert_right(method, (1000, 1), (1, 0), 1, word)
            for own in (2, 8):
                for word in WORDS:
                    votes = (1000000, 1)
                    self.assert_right(method, votes, (own, 0), 0, word)
                    self.assert_right(method, votes, (own, 0), 1, word)

    def test_equal_divisors(self):
        # All seats but the last one of each have the same quotient as its first one.
        for seats in all_valid(FLAT, (3, 3, 2), 5):
            for party, word in itertools.product(range(3), WORDS):
                self.assert_right(FLAT, (3, 3, 2), seats, party, word)


class PropertiesTest(Checks, unittest.TestCase):
    def test_where_there_is_none(self):
        # Point 101.
        met = dict.fromkeys(WORDS, 0)
        for method, votes, seats, party, word in questions(101, 150, 4, 5):
            told = margin(method, votes, seats, party, word)
            own, house = seats[party], sum(seats)
            if word.endswith("gain"):
                exists = house > own
            else:
                last = votes[:party] + (1,) + votes[party + 1:]
                exists = own > 0 and holds(method, last, house, party, own, word)
            self.assertEqual(told is not None, exists)
            met[word] += exists
        self.assertGreater(min(met.values()), 20)

    def test_can_and_must(self):
        # Point 102.
        met = {0: 0, 1: 0}
        for method, votes, seats, party, word in questions(102, 250, 4, 5):
            for verb in ("gain", "lose"):
                can = margin(method, votes, seats, party, "can " + verb)
                must = margin(method, votes, seats, party, "must " + verb)
                if can is not None and must is not None:
                    self.assertIn(must - can, (0, 1))
                    met[must - can] += 1
                # Who must, can.
                self.assertFalse(can is None and must is not None)
            can = margin(method, votes, seats, party, "can gain")
            others = [other for other in all_valid(method, votes, sum(seats)) if other != seats]
            good = any(other[party] > seats[party] for other in others)
            self.assertEqual(can == 0, good)
        self.assertGreater(min(met.values()), 20)

    def test_doubled_votes(self):
        # Point 103.
        met, new = {0: 0, 1: 0}, 0
        for method, votes, seats, party, word in questions(103, 250, 4, 5):
            told = margin(method, votes, seats, party, word)
            twice = margin(method, tuple(2 * many for many in votes), seats, party, word)
            if told is not None:
                self.assertIn(2 * told - twice, (0, 1))
                met[2 * told - twice] += 1
            elif twice is not None:
                self.assertTrue(word.endswith("lose"))
                new += 1
        self.assertGreater(min(met.values()), 20)
        self.assertGreater(new, 0)

    def test_sure_seats(self):
        # Point 99: what seats surely show holds of all valid ones.
        met = 0
        for method, votes, house in sample(104, 150, 3):
            house = min(house, 5)
            valid = all_valid(method, votes, house)
            for seats in valid:
                for party, limit in itertools.product(range(len(votes)), range(house + 1)):
                    for more in (True, False):
                        if surely(method, votes, seats, party, limit, more):
                            met += 1
                            told = {(other[party] > limit) for other in valid}
                            self.assertEqual(told, {more})
        self.assertGreater(met, 100)


class JudgeTest(Checks, unittest.TestCase):
    def test_all_pairs_of_seats(self):
        # Whoever wrote accepted evidence, the margin is that number.
        met = 0
        for method, votes, seats, party, word in questions(105, 90, 3, 3):
            told = margin(method, votes, seats, party, word)
            ways = all_seats(len(votes), sum(seats)) + [None]
            numbers = {0, 1, 2} | ({told, told + 1} if told is not None else set())
            for many in numbers:
                for value in itertools.product(ways, repeat=2):
                    good = value[0] is not None and (many == 0 or value[1] is not None)
                    if good:
                        good = is_evidence(method, votes, seats, party, word, many, value)
                    judged = accepts_margin(method, votes, seats, party, word, many, value)
                    self.assert_exactly(judged, good)
                    if judged:
                        met += 1
                        self.assertEqual(many, told)
        self.assertGreater(met, 100)

    def test_other_ways_than_the_told_one(self):
        # With ties, the seats of the others can be given in several ways.
        votes, seats = (6, 3, 3, 3), (2, 1, 0, 0)
        found = [
            value
            for value in itertools.product(all_seats(4, 3), repeat=2)
            if accepts_margin(HONDT, votes, seats, 0, "can gain", 3, value)
        ]
        self.assert_exactly(margin(HONDT, votes, seats, 0, "can gain"), 3)
        self.assert_exactly(found, [
            ((3, 0, 0, 0), (2, 1, 0, 0)),
            ((3, 0, 0, 0), (2, 0, 1, 0)),
            ((3, 0, 0, 0), (2, 0, 0, 1)),
        ])

    def test_another_word_party_or_number(self):
        for method, votes, seats, party, word in questions(106, 60, 4, 5):
            value = margin_evidence(method, votes, seats, party, word)
            if value is None:
                continue
            told = margin(method, votes, seats, party, word)
            for other, verb in itertools.product(range(len(votes)), WORDS):
                for many in {told, told + 1, max(told - 1, 0), told + HUGE}:
                    judged = accepts_margin(method, votes, seats, other, verb, many, value)
                    own = margin(method, votes, seats, other, verb)
                    good = False
                    if own == many and (many == 0 or value[1] is not None):
                        good = is_evidence(method, votes, seats, other, verb, many, value)
                    self.assert_exactly(judged, good)

    def test_seats_of_another_house(self):
        pair = ((1, 2, 0), (2, 1, 0))
        for other in ((1, 1, 0), (1, 2, 1), (1, 3, 0), (0, 0, 0), (2, 6, 0), (2, 7, 0)):
            for value in ((other, pair[1]), (pair[0], other), (other, other)):
                told = accepts_margin(HONDT, VOTES, SEATS, 1, "can gain", 3, value)
                self.assert_exactly(told, False)

    def test_other_values(self):
        wrong = OTHER_KINDS + (
            0,
            (),
            ((1, 2, 0),),
            ((1, 2, 0), (2, 1, 0), None),
            [(1, 2, 0), (2, 1, 0)],
            ([1, 2, 0], (2, 1, 0)),
            ((1, 2, 0), [2, 1, 0]),
            ((1, 2, 0), None),
            (None, (2, 1, 0)),
            (None, None),
            ((1, 2), (2, 1, 0)),
            ((1, 2, 0, 0), (2, 1, 0)),
            ((1, 2, 0), (2, 1)),
            ((1, 2, 0), (2, 1, 0, 0)),
            ((True, 2, 0), (2, 1, 0)),
            ((1, 2, False), (2, 1, 0)),
            ((1, 2, 0), (2, True, 0)),
            ((1, 2, 0), (2, 1, False)),
            ((1.0, 2, 0), (2, 1, 0)),
            ((1, 2, 0), (2, "1", 0)),
            ((1, 3, -1), (2, 1, 0)),
            ((1, 2, 0), (3, 1, -1)),
            ("120", "210"),
            (1, 2, 0),
            (3, 4),
        )
        for value in wrong:
            for word in WORDS:
                for many in (0, 2, 3, 4):
                    told = accepts_margin(HONDT, VOTES, SEATS, 1, word, many, value)
                    self.assert_exactly(told, False)

    def test_twisted(self):
        for method, votes, seats, party, word in questions(107, 25, 4, 5):
            told = margin(method, votes, seats, party, word)
            value = margin_evidence(method, votes, seats, party, word)
            if told is None:
                continue
            self.assert_judged(
                lambda value: accepts_margin(method, votes, seats, party, word, told, value),
                lambda value: self.is_right(method, votes, seats, party, word, told, value),
                value,
            )

    def is_right(self, method, votes, seats, party, word, many, value):
        if not isinstance(value, tuple) or None in value[:1] or (many and None in value):
            return False
        return is_evidence(method, votes, seats, party, word, many, value)

    def test_numbers_of_whatever_size(self):
        value = ((1, 2, 0), (2, 1, 0))
        for word in WORDS:
            for many in (HUGE, 10**400):
                told = accepts_margin(HONDT, VOTES, SEATS, 1, word, many, value)
                self.assert_exactly(told, False)

    def test_without_seats_nothing_is_lost(self):
        for many in (0, 1, 2):
            for value in (((2, 1, 0), None), ((2, 1, 0), (2, 1, 0)), ((3, 0, 0), (2, 1, 0))):
                for word in ("can lose", "must lose"):
                    told = accepts_margin(HONDT, VOTES, SEATS, 2, word, many, value)
                    self.assert_exactly(told, False)


class WrongTest(Checks, unittest.TestCase):
    def test_wrong_arguments(self):
        for function in (margin, margin_evidence):
            self.assert_checked(function, ROWS)
            self.assert_bad("party", function, HONDT, (), (), 0, "can gain")
        value = ((1, 2, 0), (2, 1, 0))
        rows = ROWS + [("many", 3, WRONG_MANY), ("value", value, None)]
        self.assert_checked(accepts_margin, rows)
        self.assert_bad("party", accepts_margin, HONDT, (), (), 0, "can gain", 0, None)

    def test_seats_that_are_not_valid(self):
        for seats in ((1, 1, 1), (0, 3, 0), (3, 0, 0), (8, 0, 0), (0, 0, 8)):
            good = has_key(HONDT, VOTES, seats)
            for party, word in itertools.product(range(3), WORDS):
                arguments = (HONDT, VOTES, seats, party, word)
                if good:
                    margin(*arguments)
                    continue
                self.assert_not_possible("wrong", margin, *arguments)
                self.assert_not_possible("wrong", margin_evidence, *arguments)
                for value in (None, (seats, seats), ((1, 2, 0), (2, 1, 0))):
                    self.assert_not_possible("wrong", accepts_margin, *arguments, 0, value)

    def test_wrong_arguments_come_first(self):
        right = [HONDT, VOTES, (1, 1, 1), 1, "can gain"]
        names = ["method", "votes", "seats", "party", "word"]
        wrong = [None, (7, 4), (1, 1), 3, "gain"]
        for at, name in enumerate(names):
            arguments = right[:at] + [wrong[at]] + right[at + 1:]
            for function in (margin, margin_evidence):
                told = "seats" if name == "votes" else name
                self.assert_bad(told, function, *arguments)
            told = "seats" if name == "votes" else name
            self.assert_bad(told, accepts_margin, *arguments, -1, None)
        self.assert_bad("many", accepts_margin, *right, -1, None)
        self.assert_bad("many", accepts_margin, *right, True, ((1, 2, 0), (2, 1, 0)))


if __name__ == "__main__":
    unittest.main()
