"""Points 40 to 51: results, the divisors that fit them, and rounds."""

import itertools
import math
import random
import unittest
from fractions import Fraction

import oracle
from dividedseats.fitting import (
    accepts_fit,
    are_results,
    can_fit,
    fit_evidence,
    is_result,
    wrong_in,
)
from dividedseats.methods import divisors
from support import (
    HONDT,
    LAGUE,
    OTHER_KINDS,
    RESULT,
    WRONG_DIVISORS,
    WRONG_RESULT,
    WRONG_RESULTS,
    Checks,
    all_valid,
    has_key,
    plain_divisors,
    sample,
    small_method,
    twists,
)

SMALL, GREAT = ((2, 1), (1, 1)), ((3, 2), (2, 0))
# Its only rounds go around all of the indexes from 0 to 7.
LONG = ((2, 3), (8, 0))
LONG_ROUND = (("seen", 0, 0, 1),) + tuple(("up", index) for index in range(7))
# Its shortest round is one condition, which leads from the index 0 to itself.
LOOP = ((2, 3), (1, 0))
LOOP_STEP = ("seen", 0, 0, 1)

RESULTS_ROW = ("results", (RESULT, GREAT), WRONG_RESULTS)
DIVISORS_ROW = ("divisors", (1, 2), WRONG_DIVISORS)


def rotations(steps):
    return [steps[at:] + steps[:at] for at in range(len(steps))]


def samples(seed, many, **limits):
    chance = random.Random(seed)
    for _ in range(many):
        yield chance, oracle.some_results(chance, **limits)


class IsResultTest(Checks, unittest.TestCase):
    right = (
        ((), ()),
        ((1,), (0,)),
        ((1000000,), (8,)),
        ((1, 1000000), (0, 8)),
        ((3,) * 5, (2, 2, 2, 1, 1)),
        ((3,) * 5, (0,) * 5),
        ((5, 3), (0, 8)),
        RESULT,
    )

    def test_results(self):
        for value in self.right:
            self.assert_exactly(is_result(value), True)
            self.assert_exactly(are_results((value,)), True)
        self.assert_exactly(are_results(()), True)
        for many in range(7):
            self.assert_exactly(are_results((RESULT,) * many), True)
        self.assert_exactly(are_results(self.right[:6]), True)

    def test_other_values(self):
        for value in WRONG_RESULT:
            self.assert_exactly(is_result(value), False)
        for value in WRONG_RESULTS:
            self.assert_exactly(are_results(value), False)
        for many in range(7, 10):
            self.assert_exactly(are_results((RESULT,) * many), False)

    def test_where_the_wrong_one_stands(self):
        for at in range(6):
            value = (RESULT,) * at + (None,) + (RESULT,) * (5 - at)
            self.assert_exactly(are_results(value), False)


class ExampleTest(Checks, unittest.TestCase):
    def test_of_the_interface(self):
        self.assert_exactly(fit_evidence((SMALL,)), ("divisors", (1, 2)))
        self.assert_exactly(fit_evidence((GREAT,)), ("divisors", (1, 1)))
        self.assert_exactly(fit_evidence((((3, 4), (2, 2)), SMALL)), ("divisors", (3, 6, 8)))
        self.assert_exactly(can_fit((SMALL, GREAT)), False)
        steps = (("seen", 0, 1, 0), ("seen", 1, 0, 1))
        self.assert_exactly(accepts_fit((SMALL, GREAT), ("round", steps)), True)
        steps = (("up", 0), ("seen", 0, 0, 1))
        self.assert_exactly(accepts_fit((((3, 5), (2, 0)),), ("round", steps)), True)
        self.assert_exactly(accepts_fit((SMALL,), ("divisors", (2, 3))), False)
        self.assert_exactly(wrong_in((SMALL, GREAT), (1, 2)), (1, 0, 1))
        self.assert_exactly(wrong_in((SMALL, GREAT), (1, 1)), (0, 1, 0))
        self.assert_exactly(wrong_in((SMALL,), (5,)), (0, 1, 0))
        self.assert_exactly(are_results((SMALL, GREAT)), True)

    def test_of_point_51(self):
        # Twice d(0) is at most d(1).
        self.assert_exactly(accepts_fit((SMALL,), ("divisors", (1, 2))), True)
        self.assert_exactly(accepts_fit((SMALL,), ("divisors", (10, 19))), False)
        # 2 times d(1) is at most 3 times d(0).
        self.assert_exactly(accepts_fit((GREAT,), ("divisors", (2, 3))), True)
        self.assert_exactly(accepts_fit((GREAT,), ("divisors", (20, 31))), False)
        word, steps = fit_evidence((SMALL, GREAT))
        self.assertEqual(word, "round")
        self.assertIn(steps, rotations((("seen", 0, 1, 0), ("seen", 1, 0, 1))))


class ToldDivisorsTest(Checks, unittest.TestCase):
    def test_no_condition(self):
        for results in (
            (),
            (((), ()),),
            (((5,), (8,)),),
            (((5, 3), (0, 0)),),
            (((), ()), ((1000000,), (0,)), ((3,) * 5, (0,) * 5), ((1,), (1,))),
        ):
            self.assert_exactly(can_fit(results), True)
            self.assert_exactly(fit_evidence(results), ("divisors", (1,)))
            for value in ((1,), (7,), (1,) * 20, tuple(range(1, 21)), (10**50, 10**51)):
                self.assert_exactly(accepts_fit(results, ("divisors", value)), True)
                self.assert_exactly(wrong_in(results, value), None)

    def test_least_and_most_votes(self):
        far = ((1000000, 1), (1, 1))
        self.assert_exactly(fit_evidence((far,)), ("divisors", (1, 1000000)))
        self.assert_exactly(accepts_fit((far,), ("divisors", (1, 999999))), False)
        self.assert_exactly(wrong_in((far,), (1, 999999)), (0, 1, 0))
        self.assert_exactly(wrong_in((far,), (1, 1000000)), None)
        farther = tuple(
            ((1000000, 1), (own, 1)) if own > 1 else far for own in range(1, 7)
        )
        expected = tuple(item for item in (1,) + (1000000,) * 6)
        self.assert_exactly(fit_evidence(farther), ("divisors", expected))

    def test_products_of_many_factors(self):
        # Each result asks that the next divisor is 1000000 times as great.
        steep = (
            ((1000000, 1), (1, 1)),
            ((1000000, 1), (2, 2)),
            ((1000000, 1), (3, 3)),
            ((1000000, 1), (4, 4)),
        )
        expected = tuple(1000000**index for index in range(5))
        self.assert_exactly(fit_evidence(steep), ("divisors", expected))

    def test_equal_votes(self):
        self.assert_exactly(fit_evidence((((4, 4), (1, 1)),)), ("divisors", (1, 1)))
        self.assert_exactly(fit_evidence((((4, 4), (8, 0)),)), ("divisors", (1,) * 8))
        self.assert_exactly(fit_evidence((((1,) * 5, (2, 2, 2, 1, 1)),)), ("divisors", (1, 1, 1)))

    def test_as_many_as_the_top_asks(self):
        for own in range(1, 9):
            # The greatest index is that of the last seat of the first party.
            results = (((9, 1), (own, 0)),)
            self.assert_exactly(fit_evidence(results), ("divisors", (1,) * own))
        for own in range(1, 5):
            # It is that of the next seat of the second party.
            results = (((9, 9), (own, own)),)
            self.assert_exactly(fit_evidence(results), ("divisors", (1,) * (own + 1)))
        self.assert_exactly(fit_evidence((((9, 1), (1, 7)), )), fit_evidence((((9, 1), (1, 7)),) * 2))

    def test_just_fits(self):
        # The product of the round is exactly 1: then its divisors are in these ratios.
        just = (((2, 1), (1, 1)), ((2, 1), (2, 0)))
        self.assert_exactly(fit_evidence(just), ("divisors", (1, 2)))
        self.assert_exactly(accepts_fit(just, ("divisors", (10, 20))), True)
        self.assert_exactly(accepts_fit(just, ("divisors", (10, 21))), False)
        self.assert_exactly(accepts_fit(just, ("divisors", (10, 19))), False)
        steps = (("seen", 0, 1, 0), ("seen", 1, 0, 1))
        self.assert_exactly(accepts_fit(just, ("round", steps)), False)
        self.assert_exactly(can_fit((((3, 3), (8, 0)),)), True)
        self.assert_exactly(can_fit((((3, 3), (1, 0)),)), True)

    def test_just_does_not_fit(self):
        not_just = (((2000, 1000), (1, 1)), ((1999, 1000), (2, 0)))
        self.assert_exactly(can_fit(not_just), False)
        self.assert_exactly(fit_evidence(not_just)[0], "round")
        self.assert_exactly(can_fit((((999999, 1000000), (8, 0)),)), False)
        self.assert_exactly(can_fit((((999999, 1000000), (1, 0)),)), False)
        self.assert_exactly(can_fit((((1000000, 1000000), (8, 0)),)), True)
        just = (((999999, 1000000), (1, 1)), ((999999, 1000000), (0, 2)))
        self.assert_exactly(can_fit(just), True)

    def test_six_results(self):
        results = tuple(((own + 1, own), (own, own)) for own in (1, 2, 3, 4)) + (SMALL, SMALL)
        self.assert_exactly(can_fit(results), True)
        self.assert_exactly(fit_evidence(results), ("divisors", oracle.told(results)))

    def test_against_another_way(self):
        fit = 0
        for _, results in samples(44, 300):
            self.assert_exactly(can_fit(results), not oracle.has_round(results))
            if not oracle.has_round(results):
                fit += 1
                told = oracle.told(results)
                self.assert_exactly(fit_evidence(results), ("divisors", told))
                self.assertEqual(math.gcd(*told), 1)
                self.assertEqual(len(told), oracle.top(results) + 1)
                self.assertTrue(oracle.fits(results, told))
                self.assert_exactly(accepts_fit(results, ("divisors", told)), True)
        self.assertGreater(fit, 200)
        self.assertLess(fit, 290)

    def test_none_is_greater_compared_with_the_top(self):
        # Points 43 and 46: all small divisors, whether a program would tell them or not.
        rows = {
            many: list(itertools.combinations_with_replacement(range(1, 10), many))
            for many in range(1, 5)
        }
        met = 0
        for _, results in samples(46, 60, most=3, parties=3, house=3, votes=4):
            many = oracle.top(results) + 1
            word, told = fit_evidence(results)
            for row in rows[many]:
                good = oracle.fits(results, row)
                self.assert_exactly(accepts_fit(results, ("divisors", row)), good)
                if not good:
                    continue
                met += 1
                self.assertEqual(word, "divisors")
                for item, best in zip(row, told):
                    self.assertLessEqual(item * told[-1], best * row[-1])
        self.assertGreater(met, 1000)


class RoundTest(Checks, unittest.TestCase):
    def test_one_condition(self):
        self.assert_exactly(fit_evidence((LOOP,)), ("round", (LOOP_STEP,)))
        self.assert_exactly(accepts_fit((LOOP,), ("round", (LOOP_STEP,))), True)

    def test_lengths(self):
        for many in range(1, 41):
            value = ("round", (LOOP_STEP,) * many)
            self.assert_exactly(accepts_fit((LOOP,), value), True)
        for many in (0, 41, 42, 80):
            value = ("round", (LOOP_STEP,) * many)
            self.assert_exactly(accepts_fit((LOOP,), value), False)

    def test_eight_conditions(self):
        word, steps = fit_evidence((LONG,))
        self.assertEqual(word, "round")
        self.assertIn(steps, rotations(LONG_ROUND))
        for steps in rotations(LONG_ROUND):
            self.assert_exactly(accepts_fit((LONG,), ("round", steps)), True)
            self.assert_exactly(accepts_fit((LONG,), ("round", steps * 5)), True)
            self.assert_exactly(accepts_fit((LONG,), ("round", steps[:-1])), False)
            self.assert_exactly(accepts_fit((LONG,), ("round", steps + steps[:1])), False)
            self.assert_exactly(accepts_fit((LONG,), ("round", steps[::-1])), False)
        self.assert_exactly(accepts_fit((LONG,), ("round", LONG_ROUND * 5 + LONG_ROUND)), False)

    def test_around_more_often(self):
        # 41 conditions that would be a round, and 40 that are.
        both = (LONG, LOOP)
        short = (("seen", 1, 0, 1),)
        self.assert_exactly(accepts_fit(both, ("round", LONG_ROUND * 4 + short * 8)), False)
        steps = (("seen", 0, 0, 1),) + short * 32 + LONG_ROUND[1:]
        self.assert_exactly(accepts_fit(both, ("round", steps)), True)
        steps = (("seen", 0, 0, 1),) + short * 33 + LONG_ROUND[1:]
        self.assertEqual(len(steps), 41)
        self.assert_exactly(accepts_fit(both, ("round", steps)), False)

    def test_up(self):
        # Each of them is a condition, but none comes back alone.
        for index in range(-2, 12):
            self.assert_exactly(accepts_fit((LOOP,), ("round", (("up", index),))), False)
            self.assert_exactly(accepts_fit((), ("round", (("up", index),))), False)
        # With votes for each number of seats, an "up" at each index that can be in a round.
        for own in range(2, 9):
            results = (((2, 3), (own, 0)),)
            steps = (("seen", 0, 0, 1),) + tuple(("up", index) for index in range(own - 1))
            for value in rotations(steps):
                self.assert_exactly(accepts_fit(results, ("round", value)), True)
            self.assertIn(fit_evidence(results)[1], rotations(steps))

    def test_a_party_and_itself(self):
        # From 0 to 1 leads only what is said of two parties, or an "up".
        results = (((2, 3), (2, 0)), ((5,), (1,)), ((7, 2), (1, 0)))
        back = ("seen", 0, 0, 1)
        self.assert_exactly(accepts_fit(results, ("round", (back, ("up", 0)))), True)
        for step in (("seen", 1, 0, 0), ("seen", 2, 0, 0), ("seen", 1, 0, 1), ("seen", 2, 1, 1)):
            self.assert_exactly(accepts_fit(results, ("round", (back, step))), False)
            self.assert_exactly(accepts_fit(results, ("round", (step, back))), False)

    def test_product_of_exactly_1(self):
        even = ((3, 3), (8, 0))
        self.assert_exactly(accepts_fit((even,), ("round", LONG_ROUND)), False)
        self.assert_exactly(accepts_fit((even, LONG), ("round", LONG_ROUND)), False)
        steps = (("seen", 1, 0, 1),) + LONG_ROUND[1:]
        self.assert_exactly(accepts_fit((even, LONG), ("round", steps)), True)

    def test_same_result_twice(self):
        # A round can use any of two equal results.
        results = (SMALL, GREAT, SMALL, GREAT)
        for one, other in itertools.product((0, 2), (1, 3)):
            steps = (("seen", one, 1, 0), ("seen", other, 0, 1))
            for value in rotations(steps):
                self.assert_exactly(accepts_fit(results, ("round", value)), True)
        steps = (("seen", 1, 1, 0), ("seen", 0, 0, 1))
        self.assert_exactly(accepts_fit(results, ("round", steps)), False)

    def test_as_few_conditions_as_any(self):
        lengths = []
        chance = random.Random(45)
        for _ in range(120):
            results = oracle.near_results(chance)
            self.assert_exactly(can_fit(results), not oracle.has_round(results))
            if not can_fit(results):
                word, steps = fit_evidence(results)
                lengths.append(len(steps))
                self.assertEqual(word, "round")
                self.assertEqual(len(steps), oracle.fewest(results))
                self.assertTrue(oracle.is_round(results, steps))
                for value in rotations(steps):
                    self.assert_exactly(accepts_fit(results, ("round", value)), True)
        self.assertGreater(len(lengths), 30)
        self.assertGreater(max(lengths), 4)


class ExactlyOneTest(Checks, unittest.TestCase):
    def test_divisors_or_round(self):
        # Point 45: many rows and walks, of which the judge accepts those of one word alone.
        for chance, results in samples(47, 60, most=3, parties=3, votes=5):
            told = fit_evidence(results)
            self.assert_exactly(accepts_fit(results, told), True)
            word = told[0]
            for _ in range(30):
                row = sorted(chance.randint(1, 12) for _ in range(chance.randint(1, 8)))
                good = accepts_fit(results, ("divisors", tuple(row)))
                self.assert_exactly(good, oracle.fits(results, tuple(row)))
                self.assertFalse(good and word == "round")
            for _ in range(30):
                steps = self.walk(chance, results)
                good = accepts_fit(results, ("round", steps))
                self.assert_exactly(good, oracle.is_round(results, steps))
                self.assertFalse(good and word == "divisors")

    def walk(self, chance, results):
        """Conditions one behind another, until they come back to where they began."""
        known = [(condition, *oracle.link(results, condition)) for condition in oracle.conditions(results)]
        at = begin = chance.randint(0, 4)
        steps = []
        while len(steps) < 12 and (not steps or at != begin):
            leading = [row for row in known if row[1] == at]
            if not leading:
                break
            condition, _, at, _ = chance.choice(leading)
            steps.append(condition)
        return tuple(steps)


class OtherEvidenceTest(Checks, unittest.TestCase):
    def test_divisors_of_methods(self):
        # Point 49.
        for method, votes, house in sample(49, 40, 4):
            for seats in all_valid(method, votes, house)[:3]:
                results = ((votes, seats),)
                for many in (9, 12, 20):
                    value = ("divisors", divisors(method, many))
                    self.assert_exactly(accepts_fit(results, value), True)
        chance = random.Random(50)
        for _ in range(60):
            method = small_method(chance)
            results = oracle.some_results(chance, most=2, parties=3)
            good = all(has_key(method, votes, seats) for votes, seats in results)
            value = ("divisors", divisors(method, 9))
            self.assert_exactly(accepts_fit(results, value), good)

    def test_multiplied_divisors(self):
        # Point 48.
        for _, results in samples(51, 60):
            word, told = fit_evidence(results)
            if word == "divisors":
                row = plain_divisors((told, 1), 12)
                for times in (1, 2, 10**40):
                    value = ("divisors", tuple(item * times for item in row))
                    self.assert_exactly(accepts_fit(results, value), True)

    def test_1_and_20_divisors(self):
        results = (((5, 3), (1, 0)),)
        for many in range(1, 21):
            value = ("divisors", tuple(range(4, 4 + many)))
            self.assert_exactly(accepts_fit(results, value), True)
        for value in ((), (4,) * 21, tuple(range(1, 22))):
            self.assert_exactly(accepts_fit(results, ("divisors", value)), False)

    def test_divisors_behind_the_told_ones(self):
        # The divisor behind 5 is 6, and the one behind that 7.
        results = (((7, 5), (3, 1)),)
        self.assert_exactly(wrong_in(results, (5,)), None)
        self.assert_exactly(wrong_in((((7, 4), (3, 1)),), (4,)), None)
        self.assert_exactly(wrong_in((((4, 3), (2, 0)),), (3,)), None)
        self.assert_exactly(wrong_in((((4, 3), (2, 0)),), (2,)), (0, 0, 1))

    def test_twisted(self):
        chance = random.Random(52)
        rows = [results for _, results in samples(52, 25, most=3, parties=3)]
        rows += [oracle.near_results(chance) for _ in range(25)]
        for results in rows:
            self.assert_judged(
                lambda value: accepts_fit(results, value),
                lambda value: oracle.is_evidence(results, value, "divisors"),
                fit_evidence(results),
            )

    def test_twisted_examples(self):
        for results, value in (
            ((LONG,), ("round", LONG_ROUND)),
            ((LOOP,), ("round", (LOOP_STEP,) * 3)),
            ((SMALL, GREAT, LONG), ("round", (("seen", 1, 0, 1), ("seen", 0, 1, 0)))),
            ((SMALL,), ("divisors", (3, 7, 7, 9))),
            ((((3, 4), (2, 2)), SMALL), ("divisors", (30, 61, 90))),
        ):
            self.assertTrue(oracle.is_evidence(results, value, "divisors"))
            self.assert_judged(
                lambda value: accepts_fit(results, value),
                lambda value: oracle.is_evidence(results, value, "divisors"),
                value,
            )

    def test_exchanged_conditions(self):
        results = (SMALL, GREAT, LONG)
        known = oracle.conditions(results)
        for steps in itertools.product(known, repeat=2):
            told = accepts_fit(results, ("round", steps))
            self.assert_exactly(told, oracle.is_round(results, steps))
        for steps in ((LONG_ROUND[0],) + pair for pair in itertools.product(known, repeat=2)):
            told = accepts_fit(results, ("round", steps))
            self.assert_exactly(told, oracle.is_round(results, steps))

    def test_other_words(self):
        for word in ("possible", "Divisors", "ROUND", "", "divisor", "most", "none", None, 0, b"round"):
            self.assert_exactly(accepts_fit((SMALL,), (word, (1, 2))), False)
            self.assert_exactly(accepts_fit((LOOP,), (word, (LOOP_STEP,))), False)
        # The right words, each with what belongs to the other one.
        self.assert_exactly(accepts_fit((SMALL,), ("round", (1, 2))), False)
        self.assert_exactly(accepts_fit((LOOP,), ("divisors", (LOOP_STEP,))), False)

    def test_other_forms_of_conditions(self):
        forms = (
            ["seen", 0, 0, 1],
            ("seen", 0, 0),
            ("seen", 0, 0, 1, 1),
            ("seen", False, False, True),
            ("seen", 0, False, 1),
            ("seen", 0, 0, True),
            ("seen", 0.0, 0, 1),
            ("seen", "0", 0, 1),
            ("seen", None, 0, 1),
            ("seen", (0,), 0, 1),
            ("seen", 0, 0, None),
            ("seen", 1, 0, 1),
            ("seen", -1, 0, 1),
            ("seen", 0, 0, 0),
            ("seen", 0, 1, 0),
            ("seen", 0, 0, 2),
            ("seen", 0, -2, 1),
            ("seen", 0, 0, -1),
            ("Seen", 0, 0, 1),
            ("up", 0, 0, 1),
            (0, 0, 1),
            ("seen",),
            ("up",),
            (),
            "seen",
            None,
            True,
            0,
        )
        for form in forms:
            self.assert_exactly(accepts_fit((LOOP,), ("round", (form,))), False)
            self.assert_exactly(accepts_fit((LOOP,), ("round", (LOOP_STEP, form))), False)
            self.assert_exactly(accepts_fit((LOOP,), ("round", (form, LOOP_STEP))), False)
        up = (("up", True), ("up", False), ("up", 0.0), ("up", "0"), ("up", None), ("up",), ["up", 0])
        for form in up + (("up", 0, 0), ("UP", 0), ("up", (0,)), ("up", 9), ("up", -1)):
            steps = (form,) + LONG_ROUND[2:] + LONG_ROUND[:1]
            self.assert_exactly(accepts_fit((LONG,), ("round", steps)), False)

    def test_other_values(self):
        for value in OTHER_KINDS + ((), ("round",), ("divisors",), ("divisors", (1, 2), ()), "round"):
            self.assert_exactly(accepts_fit((SMALL,), value), False)
            self.assert_exactly(accepts_fit((LOOP,), value), False)
            self.assert_exactly(accepts_fit((SMALL,), ("divisors", value)), False)
            self.assert_exactly(accepts_fit((LOOP,), ("round", value)), False)
        for value in WRONG_DIVISORS:
            self.assert_exactly(accepts_fit((), ("divisors", value)), False)


class WrongInTest(Checks, unittest.TestCase):
    def test_first_triple(self):
        for chance, results in samples(53, 200):
            row = sorted(chance.randint(1, 12) for _ in range(chance.randint(1, 20)))
            plain = plain_divisors((row, 1), 9)
            wrong = []
            for condition in oracle.seen(results):
                start, end, factor = oracle.link(results, condition)
                if Fraction(plain[start], plain[end]) > factor:
                    wrong.append(condition[1:])
            self.assert_exactly(wrong_in(results, tuple(row)), wrong[0] if wrong else None)

    def test_divisors_of_any_size(self):
        big = 10**60
        self.assert_exactly(wrong_in((SMALL,), (big, 2 * big)), None)
        self.assert_exactly(wrong_in((SMALL,), (big, 2 * big - 1)), (0, 1, 0))
        self.assert_exactly(wrong_in((SMALL, GREAT), (big, 2 * big)), (1, 0, 1))

    def test_wrong_arguments(self):
        self.assert_checked(wrong_in, [RESULTS_ROW, DIVISORS_ROW])


class PropertiesTest(Checks, unittest.TestCase):
    def test_parts(self):
        # Point 47.
        for _, results in samples(54, 80):
            if can_fit(results):
                for at in range(len(results)):
                    self.assert_exactly(can_fit(results[:at] + results[at + 1:]), True)
                    self.assert_exactly(can_fit(results[at:]), True)

    def test_sequence_and_number(self):
        # Point 47.
        for chance, results in samples(55, 80, most=3):
            other = list(results) * 2
            chance.shuffle(other)
            other = tuple(other)
            self.assert_exactly(can_fit(other), can_fit(results))
            if can_fit(results):
                self.assert_exactly(fit_evidence(other), fit_evidence(results))
            else:
                self.assertEqual(len(fit_evidence(other)[1]), len(fit_evidence(results)[1]))

    def test_multiplied_votes(self):
        # Point 47.
        for _, results in samples(56, 80):
            other = tuple(
                (tuple(many * (3 + at) for many in votes), seats)
                for at, (votes, seats) in enumerate(results)
            )
            self.assert_exactly(can_fit(other), can_fit(results))
            if can_fit(results):
                self.assert_exactly(fit_evidence(other), fit_evidence(results))
            else:
                self.assert_exactly(accepts_fit(other, fit_evidence(results)), True)

    def test_results_that_set_no_condition(self):
        # Point 47.
        empty = (((), ()), ((5,), (8,)), ((9, 2), (0, 0)))
        for _, results in samples(57, 80, most=3):
            told = fit_evidence(results)
            self.assert_exactly(accepts_fit(results + empty, told), True)
            if told[0] == "divisors":
                self.assert_exactly(fit_evidence(empty + results), told)

    def test_methods_fit_what_they_give(self):
        # Point 49.
        chance = random.Random(58)
        for method in (HONDT, LAGUE, ((7, 15), 10), ((1000,) * 6, 1), ((1, 1000), 1000)):
            row = plain_divisors(method, 9)
            for _ in range(20):
                results = []
                for _ in range(6):
                    votes = tuple(chance.randint(1, 1000000) for _ in range(5))
                    results.append((votes, oracle.given(chance, row, votes, 8)))
                self.assert_exactly(can_fit(tuple(results)), True)
                told = fit_evidence(tuple(results))
                self.assert_exactly(told, ("divisors", oracle.told(tuple(results))))
                value = ("divisors", divisors(method, 9))
                self.assert_exactly(accepts_fit(tuple(results), value), True)

    def test_same_answers_again(self):
        # Point 2.
        for _, results in samples(59, 30):
            self.assert_exactly(fit_evidence(results), fit_evidence(results))


class WrongArgumentsTest(Checks, unittest.TestCase):
    def test_results(self):
        for function in (can_fit, fit_evidence):
            self.assert_checked(function, [RESULTS_ROW])
        self.assert_checked(accepts_fit, [RESULTS_ROW, ("value", ("divisors", (1, 2)), None)])

    def test_twisted_results(self):
        for value in twists((SMALL, ((7, 4, 1), (2, 1, 0)))):
            if not are_results(value):
                self.assert_bad("results", can_fit, value)
                self.assert_bad("results", accepts_fit, value, ("divisors", (1,)))


if __name__ == "__main__":
    unittest.main()
