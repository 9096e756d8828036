"""Points 52 to 55 and 60 to 62: what is possible, and what is certain, behind results."""

import itertools
import random
import unittest

import oracle
from dividedseats.fitting import can_fit
from dividedseats.methods import divisors
from dividedseats.prediction import accepts_possible, certain, possible, possible_evidence
from support import (
    HONDT,
    LAGUE,
    OTHER_KINDS,
    RESULT,
    WRONG_DIVISORS,
    WRONG_RESULTS,
    WRONG_SEATS,
    WRONG_VOTES,
    Checks,
    all_seats,
    all_valid,
    plain_divisors,
    some_seats,
    wrong_integers,
)

SMALL, GREAT = ((2, 1), (1, 1)), ((3, 2), (2, 0))
LOOP = ((2, 3), (1, 0))

RESULTS_ROW = ("results", (RESULT,), WRONG_RESULTS)
VOTES_ROW = ("votes", (7, 4, 1), WRONG_VOTES)
SEATS_ROW = ("seats", (2, 1, 0), WRONG_SEATS)
HOUSE_ROW = ("house", 3, wrong_integers(0, 8))


def some_votes(chance, parties=4, votes=9):
    return tuple(chance.randint(1, votes) for _ in range(chance.randint(0, parties)))


def plain_possible(results, votes, house):
    """Point 53, in another way."""
    return [
        seats
        for seats in all_seats(len(votes), house)
        if not oracle.has_round(results + ((votes, seats),))
    ]


class ExampleTest(Checks, unittest.TestCase):
    def test_of_the_interface(self):
        self.assert_exactly(possible((SMALL,), (3, 2), 2), [(1, 1)])
        self.assert_exactly(certain((SMALL,), (3, 2), 2), (1, 1))
        self.assert_exactly(possible((), (3, 2), 2), [(2, 0), (1, 1)])
        self.assert_exactly(certain((), (3, 2), 2), None)
        told = possible_evidence((SMALL,), (3, 2), (1, 1))
        self.assert_exactly(told, ("possible", (1, 2)))
        value = ("round", (("seen", 0, 1, 0), ("seen", 1, 0, 1)))
        self.assert_exactly(accepts_possible((SMALL,), (3, 2), (2, 0), value), True)

    def test_of_point_62(self):
        self.assert_exactly(possible_evidence((SMALL,), (3, 2), (2, 0))[0], "round")
        self.assert_exactly(possible_evidence((), (3, 2), (2, 0)), ("possible", (1, 1)))
        self.assert_exactly(possible_evidence((), (3, 2), (1, 1)), ("possible", (2, 3)))
        word, steps = possible_evidence((), (3, 2), (0, 2))
        self.assertEqual(word, "round")
        self.assertTrue(oracle.is_round((((3, 2), (0, 2)),), steps))


class PossibleTest(Checks, unittest.TestCase):
    def test_no_parties(self):
        for results in ((), (SMALL,), (SMALL,) * 6):
            self.assert_exactly(possible(results, (), 0), [()])
            self.assert_exactly(certain(results, (), 0), ())
            told = possible_evidence(results, (), ())
            self.assert_exactly(told, ("possible", (1, 2) if results else (1,)))
            for house in range(1, 9):
                self.assert_exactly(possible(results, (), house), [])
                self.assert_exactly(certain(results, (), house), None)

    def test_results_that_no_divisors_fit(self):
        for results in ((LOOP,), (SMALL, GREAT), (SMALL,) * 5 + (LOOP,)):
            for votes, house in (((), 0), ((5,), 3), ((5, 3), 0), ((1,) * 5, 8)):
                self.assert_exactly(possible(results, votes, house), [])
                self.assert_exactly(certain(results, votes, house), None)
            word, steps = possible_evidence(results, (5,), (3,))
            self.assertEqual(word, "round")
            self.assertTrue(oracle.is_round(results, steps))

    def test_one_party(self):
        for house in range(9):
            self.assert_exactly(possible((SMALL,), (1000000,), house), [(house,)])
            self.assert_exactly(certain((), (1,), house), (house,))

    def test_no_seats(self):
        for votes in ((1,), (1, 1000000), (3,) * 5):
            none = (0,) * len(votes)
            self.assert_exactly(possible((), votes, 0), [none])
            self.assert_exactly(certain((SMALL,), votes, 0), none)

    def test_without_results(self):
        # Whoever has more votes has at least as many seats; nothing else is known.
        for votes in ((3, 2), (5, 3, 1), (9, 7, 7, 2)):
            for house in range(6):
                expected = [
                    seats
                    for seats in all_seats(len(votes), house)
                    if all(
                        votes[i] <= votes[j] or seats[i] >= seats[j]
                        for i, j in itertools.permutations(range(len(votes)), 2)
                    )
                ]
                self.assert_exactly(possible((), votes, house), expected)
        self.assert_exactly(len(possible((), (4,) * 5, 8)), 495)
        self.assert_exactly(possible((), (1, 1000000), 8), all_seats(2, 8)[4:])

    def test_five_parties_with_eight_seats(self):
        results = (((60, 30, 10), (3, 1, 1)),) * 6
        votes = (53, 24, 23, 9, 1)
        self.assert_exactly(possible(results, votes, 8), plain_possible(results, votes, 8))

    def test_against_another_way(self):
        chance = random.Random(52)
        sizes = []
        for _ in range(50):
            results = oracle.some_results(chance, most=4)
            votes, house = some_votes(chance), chance.randint(0, 5)
            expected = plain_possible(results, votes, house)
            self.assert_exactly(possible(results, votes, house), expected)
            only = expected[0] if len(expected) == 1 else None
            self.assert_exactly(certain(results, votes, house), only)
            sizes.append(len(expected))
        self.assertIn(0, sizes)
        self.assertIn(1, sizes)
        self.assertGreater(max(sizes), 2)

    def test_small_divisors(self):
        # Point 52: whatever divisors that fit make valid is possible.
        chance = random.Random(53)
        for _ in range(25):
            results = oracle.some_results(chance, most=2, parties=3, house=4, votes=4)
            votes, house = some_votes(chance, 3, 4), chance.randint(0, 4)
            made = set()
            for row in itertools.combinations_with_replacement(range(1, 7), 4):
                if oracle.fits(results, row):
                    for seats in all_seats(len(votes), house):
                        if oracle.fits(((votes, seats),), row):
                            made.add(seats)
            found = possible(results, votes, house)
            self.assertLessEqual(made, set(found))
            told = certain(results, votes, house)
            if told is not None:
                self.assertLessEqual(made, {told})

    def test_new_list(self):
        first = possible((SMALL,), (3, 2), 2)
        first.append(None)
        self.assert_exactly(possible((SMALL,), (3, 2), 2), [(1, 1)])


class PropertiesTest(Checks, unittest.TestCase):
    def test_nothing_is_possible(self):
        # Point 55.
        chance = random.Random(55)
        for _ in range(60):
            results = oracle.some_results(chance)
            votes, house = some_votes(chance, 3), chance.randint(0, 5)
            none = not can_fit(results) or (house > 0 and not votes)
            self.assert_exactly(possible(results, votes, house) == [], none)

    def test_once_more(self):
        # Point 55.
        chance = random.Random(56)
        for _ in range(40):
            results = oracle.some_results(chance, parties=4)
            if can_fit(results):
                for votes, seats in results:
                    self.assertIn(seats, possible(results, votes, sum(seats)))

    def test_further_results(self):
        # Point 55.
        chance = random.Random(57)
        certainly = 0
        for _ in range(60):
            results = oracle.some_results(chance, most=5)
            votes, house = some_votes(chance, 3), chance.randint(0, 5)
            found = possible(results, votes, house)
            for at in range(len(results)):
                before = possible(results[:at], votes, house)
                self.assertLessEqual(set(found), set(before))
                told = certain(results[:at], votes, house)
                if told is not None and can_fit(results):
                    certainly += 1
                    self.assert_exactly(certain(results, votes, house), told)
        self.assertGreater(certainly, 20)

    def test_methods(self):
        # Point 60.
        chance = random.Random(60)
        for method in (HONDT, LAGUE, ((7, 15), 10), ((2, 2, 5), 1)):
            row = plain_divisors(method, 9)
            for _ in range(10):
                results = []
                for _ in range(4):
                    votes = some_votes(chance, 5, 99)
                    results.append((votes, oracle.given(chance, row, votes, chance.randint(0, 8))))
                votes, house = some_votes(chance, 3, 20), chance.randint(0, 5)
                valid = all_valid(method, votes, house)
                self.assertLessEqual(set(valid), set(possible(tuple(results), votes, house)))
                for seats in valid[:4]:
                    value = ("possible", divisors(method, 9))
                    told = accepts_possible(tuple(results), votes, seats, value)
                    self.assert_exactly(told, True)

    def test_same_answers_again(self):
        chance = random.Random(61)
        results = oracle.some_results(chance)
        self.assertEqual(possible(results, (5, 3), 4), possible(results, (5, 3), 4))


class EvidenceTest(Checks, unittest.TestCase):
    def test_told(self):
        # Points 44 and 54.
        chance = random.Random(54)
        words = []
        for _ in range(200):
            results = oracle.some_results(chance)
            votes = some_votes(chance, 5)
            seats = some_seats(chance, len(votes), 8)
            if chance.random() < 0.6:
                seats = oracle.given(chance, plain_divisors(HONDT, 9), votes, sum(seats))
            more = results + ((votes, seats),)
            word, worth = possible_evidence(results, votes, seats)
            words.append(word)
            told = (word, worth)
            self.assert_exactly(accepts_possible(results, votes, seats, told), True)
            if word == "possible":
                self.assert_exactly(worth, oracle.told(more))
                self.assertFalse(oracle.has_round(more))
            else:
                self.assertEqual(word, "round")
                self.assertTrue(oracle.is_round(more, worth))
                self.assertLessEqual(len(worth), 8)
        self.assertGreater(words.count("round"), 40)
        self.assertGreater(words.count("possible"), 40)

    def test_exactly_one_word(self):
        chance = random.Random(62)
        for _ in range(40):
            results = oracle.some_results(chance, most=2, parties=3, votes=5)
            votes = some_votes(chance, 3, 5)
            seats = some_seats(chance, len(votes), 4)
            word = possible_evidence(results, votes, seats)[0]
            for row in itertools.combinations_with_replacement(range(1, 6), 4):
                good = accepts_possible(results, votes, seats, ("possible", row))
                self.assert_exactly(good, oracle.fits(results + ((votes, seats),), row))
                self.assertFalse(good and word == "round")
            known = oracle.conditions(results + ((votes, seats),))
            for steps in itertools.product(known, repeat=2):
                good = accepts_possible(results, votes, seats, ("round", steps))
                self.assertFalse(good and word == "possible")

    def test_index_of_the_seats(self):
        # It is the number of the results, up to 6.
        for many in range(7):
            results = (((5, 3), (0, 0)),) * many
            for number in range(-1, 8):
                value = ("round", (("seen", number, 0, 1),))
                told = accepts_possible(results, (2, 3), (1, 0), value)
                self.assert_exactly(told, number == many)

    def test_rounds_of_the_results_alone(self):
        value = ("round", (("seen", 0, 0, 1),))
        self.assert_exactly(accepts_possible((LOOP,), (5,), (8,), value), True)
        self.assert_exactly(accepts_possible((LOOP,), (), (), value), True)
        self.assert_exactly(accepts_possible((), (), (), value), False)

    def test_lengths(self):
        for many in range(42):
            value = ("round", (("seen", 0, 0, 1),) * many)
            told = accepts_possible((), (2, 3), (1, 0), value)
            self.assert_exactly(told, 1 <= many <= 40)
        steps = (("seen", 0, 0, 1),) + tuple(("up", index) for index in range(7))
        for at in range(8):
            value = ("round", steps[at:] + steps[:at])
            self.assert_exactly(accepts_possible((), (2, 3), (8, 0), value), True)
            self.assert_exactly(accepts_possible((), (3, 3), (8, 0), value), False)
        for many in range(22):
            told = accepts_possible((), (3, 2), (1, 0), ("possible", (4,) * many))
            self.assert_exactly(told, 1 <= many <= 20)

    def test_divisors_must_fit_both(self):
        # 1, 2 fits the results but not the seats, 1, 1 the seats but not the results.
        for row in ((1, 2), (1, 1), (2, 3), (10, 19)):
            told = accepts_possible((SMALL,), (3, 2), (2, 0), ("possible", row))
            self.assert_exactly(told, False)
        for row, good in (((1, 2), True), ((1, 3), True), ((2, 3), False), ((1, 1), False)):
            told = accepts_possible((SMALL,), (3, 2), (1, 1), ("possible", row))
            self.assert_exactly(told, good)

    def test_other_words(self):
        for word in ("divisors", "certain", "Possible", "rounds", "", None, 0, True):
            value = (word, (1, 2))
            self.assert_exactly(accepts_possible((SMALL,), (3, 2), (1, 1), value), False)
            value = (word, (("seen", 0, 0, 1),))
            self.assert_exactly(accepts_possible((), (2, 3), (1, 0), value), False)

    def test_twisted(self):
        chance = random.Random(63)
        for turn in range(50):
            results = oracle.some_results(chance, most=2, parties=3)
            votes = some_votes(chance, 3)
            seats = some_seats(chance, len(votes), 8 if turn % 2 else 2)
            self.assert_judged(
                lambda value: accepts_possible(results, votes, seats, value),
                lambda value: oracle.is_evidence(results + ((votes, seats),), value, "possible"),
                possible_evidence(results, votes, seats),
            )

    def test_other_values(self):
        for value in OTHER_KINDS + ((), ("possible",), ("round",), ("possible", (1, 2), ())):
            self.assert_exactly(accepts_possible((), (3, 2), (1, 1), value), False)
            self.assert_exactly(accepts_possible((), (2, 3), (1, 0), value), False)
        for value in WRONG_DIVISORS:
            self.assert_exactly(accepts_possible((), (), (), ("possible", value)), False)


class WrongArgumentsTest(Checks, unittest.TestCase):
    def test_of_houses(self):
        for function in (possible, certain):
            self.assert_checked(function, [RESULTS_ROW, VOTES_ROW, HOUSE_ROW])

    def test_of_seats(self):
        rows = [RESULTS_ROW, VOTES_ROW, SEATS_ROW]
        self.assert_checked(possible_evidence, rows)
        self.assert_checked(accepts_possible, rows + [("value", ("possible", (1,)), None)])

    def test_nothing_is_done_before(self):
        # Nothing is possible behind these results, but wrong arguments are told first.
        self.assert_bad("votes", possible, (LOOP,), (0,), 3)
        self.assert_bad("house", certain, (LOOP,), (), 9)
        self.assert_bad("seats", possible_evidence, (LOOP,), (5,), (9,))
        self.assert_bad("seats", accepts_possible, (LOOP,), (), (0,), None)


if __name__ == "__main__":
    unittest.main()
