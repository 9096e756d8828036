"""Points 56 to 59 and 61: the greatest ratio of one divisor to another one."""

import itertools
import math
import random
import unittest
from fractions import Fraction

import oracle
from dividedseats.fitting import can_fit, fit_evidence
from dividedseats.ratios import accepts_ratio, greatest_ratio, ratio_evidence
from support import (
    OTHER_KINDS,
    RESULT,
    WRONG_DIVISORS,
    WRONG_RESULTS,
    Checks,
    plain_divisors,
    wrong_integers,
)

SMALL, GREAT = ((2, 1), (1, 1)), ((3, 2), (2, 0))
LOOP = ((2, 3), (1, 0))
# Leads from the index 0 to itself, with the factor 1.
EVEN = ((3, 3), (1, 0))
EVEN_STEP = ("seen", 0, 0, 1)
ONES = (1,) * 9

RESULTS_ROW = ("results", (RESULT,), WRONG_RESULTS)
ONE_ROW = ("one", 0, wrong_integers(0, 8))
OTHER_ROW = ("other", 1, wrong_integers(0, 8))
NO_RATIOS = OTHER_KINDS[1:] + (
    1,
    (),
    (1,),
    (1, 2, 1),
    [1, 2],
    "12",
    (0, 1),
    (1, 0),
    (-1, -2),
    (True, 2),
    (1, True),
    (1, None),
    ("1", "2"),
    (1.0, 2.0),
    ((1,), (2,)),
    Fraction(1, 2),
)


def is_right(results, one, other, ratio, value):
    """Point 58, in another way. The integers of the value are integers."""
    if len(value) != 3 or not oracle.fits(results, value[2]):
        return False
    word, told, row = value
    if ratio is None:
        if word != "none" or not isinstance(told, tuple):
            return False
        if list(told) != sorted(set(told)) or not set(told) <= set(range(10)):
            return False
        ends = [oracle.link(results, condition)[:2] for condition in oracle.conditions(results)]
        closed = all(end in told for start, end in ends if start in told)
        return closed and one in told and other not in told
    if word != "most" or not 9 <= len(row) <= 20 or Fraction(row[one], row[other]) != Fraction(*ratio):
        return False
    if told == ():
        return one == other and ratio == (1, 1)
    return oracle.walk(results, told) == (one, other, Fraction(*ratio))


def as_pair(fraction):
    return None if fraction is None else (fraction.numerator, fraction.denominator)


def fitting_samples(seed, many, **limits):
    chance = random.Random(seed)
    found = 0
    while found < many:
        make = oracle.near_results if chance.random() < 0.3 and not limits else oracle.some_results
        results = make(chance, **limits)
        if not oracle.has_round(results):
            found += 1
            yield chance, results


class ExampleTest(Checks, unittest.TestCase):
    def test_of_the_interface(self):
        self.assert_exactly(greatest_ratio((SMALL,), 0, 1), (1, 2))
        self.assert_exactly(greatest_ratio((SMALL,), 1, 0), None)
        self.assert_exactly(greatest_ratio((GREAT,), 1, 0), (3, 2))
        self.assert_exactly(greatest_ratio((GREAT,), 2, 2), (1, 1))
        value = ("most", (("seen", 0, 1, 0),), (1, 2, 2, 2, 2, 2, 2, 2, 2))
        self.assert_exactly(accepts_ratio((SMALL,), 0, 1, (1, 2), value), True)
        value = ("none", (1, 2, 3, 4, 5, 6, 7, 8, 9), (1, 2))
        self.assert_exactly(accepts_ratio((SMALL,), 1, 0, None, value), True)

    def test_of_point_62(self):
        # Behind the first result d(1) is at least 2 d(0), for (2, 0) at most 3/2 times d(0).
        self.assert_exactly(greatest_ratio((SMALL,), 0, 1), (1, 2))
        self.assert_exactly(greatest_ratio((((3, 2), (2, 0)),), 1, 0), (3, 2))


class GreatestRatioTest(Checks, unittest.TestCase):
    def test_no_results(self):
        for results in ((), (((5,), (8,)),), (((5, 3), (0, 0)),) * 6, (((), ()),)):
            for one, other in itertools.product(range(9), repeat=2):
                expected = (1, 1) if one <= other else None
                self.assert_exactly(greatest_ratio(results, one, other), expected)

    def test_same_index(self):
        for results in ((), (SMALL,), (GREAT,), (EVEN,), (SMALL, ((2, 1), (2, 0)))):
            for index in range(9):
                self.assert_exactly(greatest_ratio(results, index, index), (1, 1))

    def test_indices_that_no_seen_condition_reaches(self):
        self.assert_exactly(greatest_ratio((GREAT,), 0, 8), (1, 1))
        self.assert_exactly(greatest_ratio((GREAT,), 1, 8), (1, 1))
        self.assert_exactly(greatest_ratio((GREAT,), 8, 0), None)
        self.assert_exactly(greatest_ratio((GREAT,), 5, 4), None)
        self.assert_exactly(greatest_ratio((SMALL,), 0, 8), (1, 2))
        self.assert_exactly(greatest_ratio((((5, 4), (8, 0)),), 7, 0), (5, 4))
        self.assert_exactly(greatest_ratio((((5, 4), (8, 0)),), 3, 2), (5, 4))
        self.assert_exactly(greatest_ratio((((5, 4), (8, 0)),), 8, 7), None)
        self.assert_exactly(greatest_ratio((((5, 4), (8, 0)),), 7, 8), (1, 1))

    def test_least_and_most_votes(self):
        far = ((1000000, 1), (1, 1))
        self.assert_exactly(greatest_ratio((far,), 0, 1), (1, 1000000))
        self.assert_exactly(greatest_ratio((((1000000, 1), (8, 0)),), 7, 0), (1000000, 1))

    def test_just_fits(self):
        just = (SMALL, ((2, 1), (2, 0)))
        self.assert_exactly(greatest_ratio(just, 0, 1), (1, 2))
        self.assert_exactly(greatest_ratio(just, 1, 0), (2, 1))

    def test_without_a_common_divisor(self):
        self.assert_exactly(greatest_ratio((((6, 4), (2, 0)),), 1, 0), (3, 2))
        results = (((4, 6), (1, 1)), ((6, 4), (2, 0)), ((10, 4), (3, 0)))
        for one, other in itertools.product(range(9), repeat=2):
            told = greatest_ratio(results, one, other)
            self.assertTrue(told is None or math.gcd(*told) == 1)

    def test_against_another_way(self):
        # Point 57.
        for _, results in fitting_samples(57, 60):
            least = oracle.closure(results)
            for one, other in itertools.product(range(9), repeat=2):
                expected = as_pair(least.get((one, other)))
                self.assert_exactly(greatest_ratio(results, one, other), expected)

    def test_small_divisors(self):
        # Point 56: none that fit have a greater ratio.
        met = 0
        for _, results in fitting_samples(56, 25, most=3, parties=3, house=4, votes=4):
            ratios = {
                (one, other): greatest_ratio(results, one, other)
                for one, other in itertools.product(range(5), repeat=2)
            }
            for row in itertools.combinations_with_replacement(range(1, 8), 4):
                if oracle.fits(results, row):
                    plain = plain_divisors((row, 1), 5)
                    for (one, other), ratio in ratios.items():
                        if ratio is not None:
                            met += 1
                            self.assertLessEqual(Fraction(plain[one], plain[other]), Fraction(*ratio))
        self.assertGreater(met, 1000)

    def test_later_and_by_way_of_another(self):
        # Point 59.
        for _, results in fitting_samples(59, 15):
            told = {
                (one, other): greatest_ratio(results, one, other)
                for one, other in itertools.product(range(9), repeat=2)
            }
            for one, other in itertools.combinations(range(9), 2):
                self.assertLessEqual(Fraction(*told[one, other]), 1)
            for one, way, other in itertools.product(range(9), repeat=3):
                if told[one, way] is not None and told[way, other] is not None:
                    product = Fraction(*told[one, way]) * Fraction(*told[way, other])
                    self.assertLessEqual(Fraction(*told[one, other]), product)


class EvidenceTest(Checks, unittest.TestCase):
    def test_told(self):
        words = set()
        for _, results in fitting_samples(58, 40):
            for one, other in itertools.product(range(9), repeat=2):
                ratio = greatest_ratio(results, one, other)
                value = ratio_evidence(results, one, other)
                words.add(value[0])
                self.assertEqual(value[0], "none" if ratio is None else "most")
                self.assertTrue(is_right(results, one, other, ratio, value))
                self.assert_exactly(accepts_ratio(results, one, other, ratio, value), True)
                if ratio is not None:
                    self.assertLessEqual(len(value[1]), 8)
                    self.assert_exactly(accepts_ratio(results, one, other, None, value), False)
                else:
                    self.assert_exactly(accepts_ratio(results, one, other, (1, 1), value), False)
        self.assertEqual(words, {"most", "none"})

    def test_told_behind_few_results(self):
        for results in (
            (),
            (SMALL,),
            (GREAT,),
            (EVEN,),
            (SMALL, ((2, 1), (2, 0))),
            (((5, 4), (8, 0)),),
            (((1000000, 1), (8, 0)),),
            (((1000000, 1), (1, 1)),),
            (((1000000, 1), (4, 4)),),
            (((9, 8, 7), (3, 1, 0)),),
            (((5, 4), (3, 0)), ((7, 6), (5, 3))),
        ):
            for one, other in itertools.product(range(9), repeat=2):
                ratio = greatest_ratio(results, one, other)
                value = ratio_evidence(results, one, other)
                self.assertTrue(is_right(results, one, other, ratio, value))
                self.assert_exactly(accepts_ratio(results, one, other, ratio, value), True)

    def test_exactly_one_word(self):
        # Whatever is tried, the other word is not accepted.
        rows = list(itertools.combinations_with_replacement((1, 2, 3, 4, 6), 3))
        for chance, results in fitting_samples(60, 15, most=2, parties=2, house=4, votes=3):
            known = oracle.conditions(results)
            walks = [()] + [
                steps
                for many in (1, 2)
                for steps in itertools.product(known, repeat=many)
                if oracle.walk(results, steps)
            ]
            fitting = [row for row in rows if oracle.fits(results, row)]
            for one, other in itertools.product(range(4), repeat=2):
                ratio = greatest_ratio(results, one, other)
                if ratio is None:
                    self.assert_no_most(chance, results, one, other, walks, fitting)
                else:
                    self.assert_no_none(chance, results, one, other, fitting)

    def assert_no_most(self, chance, results, one, other, walks, fitting):
        for row in fitting:
            row = plain_divisors((row, 1), 9)
            ratio = as_pair(Fraction(row[one], row[other]))
            for steps in chance.sample(walks, min(len(walks), 10)):
                value = ("most", steps, row)
                self.assert_exactly(accepts_ratio(results, one, other, ratio, value), False)

    def assert_no_none(self, chance, results, one, other, fitting):
        for row in chance.sample(fitting, min(len(fitting), 3)):
            for many in range(11):
                for low in range(11 - many):
                    value = ("none", tuple(range(low, low + many)), row)
                    self.assert_exactly(accepts_ratio(results, one, other, None, value), False)

    def test_0_to_41_conditions(self):
        for many in range(43):
            value = ("most", (EVEN_STEP,) * many, ONES)
            told = accepts_ratio((EVEN,), 0, 0, (1, 1), value)
            self.assert_exactly(told, many <= 40)
            value = ("most", (EVEN_STEP,) * many + (("up", 0),), ONES)
            told = accepts_ratio((EVEN,), 0, 1, (1, 1), value)
            self.assert_exactly(told, many <= 39)

    def test_no_conditions(self):
        for index in range(9):
            value = ("most", (), ONES)
            self.assert_exactly(accepts_ratio((), index, index, (1, 1), value), True)
            for other in range(9):
                if other != index:
                    told = accepts_ratio((), index, other, (1, 1), value)
                    self.assert_exactly(told, False)
        self.assert_exactly(accepts_ratio((), 0, 0, (2, 1), ("most", (), (2,) + ONES)), False)
        self.assert_exactly(accepts_ratio((), 0, 0, (1, 1), ("most", [], ONES)), False)

    def test_lengths_of_divisors(self):
        for many in range(23):
            told = accepts_ratio((), 0, 8, (1, 1), ("most", self.ups(0, 8), (1,) * many))
            self.assert_exactly(told, 9 <= many <= 20)
            told = accepts_ratio((), 1, 0, None, ("none", tuple(range(1, 10)), (1,) * many))
            self.assert_exactly(told, 1 <= many <= 20)

    def ups(self, one, other):
        return tuple(("up", index) for index in range(one, other))

    def test_most_without_results(self):
        for one, other in itertools.combinations(range(9), 2):
            steps = self.ups(one, other)
            for row in (ONES, (5,) * 20, (1,) * one + (2,) * (9 - one)):
                told = accepts_ratio((), one, other, (1, 1), ("most", steps, row))
                self.assert_exactly(told, True)
            for value in (
                ("most", steps[1:], ONES),
                ("most", steps[:-1], ONES),
                ("most", steps + (("up", other),), ONES),
                ("most", steps[::-1] + steps, ONES),
                ("most", steps, (1,) * other + (2,) * (9 - other)),
                ("none", steps, ONES),
            ):
                told = accepts_ratio((), one, other, (1, 1), value)
                self.assert_exactly(told, False)

    def test_a_lesser_ratio_is_not_the_greatest(self):
        # Divisors with this ratio fit, and conditions lead there, but their product is another.
        row = (1, 3) + (3,) * 7
        steps = (("seen", 0, 1, 0),)
        self.assert_exactly(oracle.fits((SMALL,), row), True)
        self.assert_exactly(accepts_ratio((SMALL,), 0, 1, (1, 3), ("most", steps, row)), False)
        self.assert_exactly(accepts_ratio((SMALL,), 0, 1, (1, 2), ("most", steps, row)), False)
        # A product, but no divisors with this ratio fit.
        row = (2, 2) + (4,) * 7
        steps = (("up", 0),)
        self.assert_exactly(accepts_ratio((SMALL,), 0, 1, (1, 1), ("most", steps, row)), False)

    def test_other_chosen_indices(self):
        results = (GREAT,)
        # Conditions lead from 1 to 0, and from each index to the next one.
        good = [tuple(range(low, 10)) for low in range(2, 6)]
        for chosen in good:
            value = ("none", chosen, (1, 1))
            self.assert_exactly(accepts_ratio(results, 5, 1, None, value), True)
            self.assert_exactly(accepts_ratio(results, 5, 0, None, value), True)
        wrong = [(), (5,), (5, 6, 7, 8), tuple(range(1, 10)), tuple(range(10)), tuple(range(6, 10))]
        wrong += [(9, 8, 7, 6, 5), (5, 5, 6, 7, 8, 9), (5, 6, 7, 8, 9, 9), (5, 6, 7, 8, 9, 10)]
        wrong += [(4, 6, 7, 8, 9), (5, 6, 8, 9), (5, 7, 6, 8, 9), (-1, 5, 6, 7, 8, 9), (3, 5, 6, 7, 8, 9)]
        wrong += [[5, 6, 7, 8, 9], None, 5, "56789", (5, 6, 7, 8, 9.0), (5, 6, 7, 8, None)]
        wrong += [(True, 5, 6, 7, 8, 9), ("5", 6, 7, 8, 9), ((5,), 6, 7, 8, 9), (5, 6, 7, 8, "9")]
        for chosen in wrong:
            value = ("none", chosen, (1, 1))
            self.assert_exactly(accepts_ratio(results, 5, 1, None, value), False)
        # Not the one index, or the other one as well.
        value = ("none", tuple(range(2, 10)), (1, 1))
        self.assert_exactly(accepts_ratio(results, 1, 0, None, value), False)
        self.assert_exactly(accepts_ratio(results, 5, 3, None, value), False)
        self.assert_exactly(accepts_ratio(results, 5, 5, None, value), False)
        self.assert_exactly(accepts_ratio((), 8, 0, None, ("none", (8, 9), (1,))), True)
        self.assert_exactly(accepts_ratio((), 8, 0, None, ("none", (8,), (1,))), False)
        # These would be right if True were the index 1.
        value = ("none", (True,) + tuple(range(2, 10)), (1, 2))
        self.assert_exactly(accepts_ratio((SMALL,), 1, 0, None, value), False)

    def test_all_sets_of_indices(self):
        sets = [
            chosen for many in range(11) for chosen in itertools.combinations(range(10), many)
        ]
        for results in ((), (SMALL,), (GREAT,), (((9, 8, 7), (3, 1, 0)),)):
            row = fit_evidence(results)[1]
            for one, other in ((1, 0), (3, 1), (0, 2), (8, 7), (4, 4), (7, 3)):
                for chosen in sets:
                    value = ("none", chosen, row)
                    told = accepts_ratio(results, one, other, None, value)
                    self.assert_exactly(told, is_right(results, one, other, None, value))

    def test_other_ratios(self):
        value = ("most", (("seen", 0, 1, 0),), (1, 2, 2, 2, 2, 2, 2, 2, 2))
        for ratio in NO_RATIOS + (None, (2, 4), (10, 20), (2, 1), (1, 1), (1, 3), (3, 2)):
            self.assert_exactly(accepts_ratio((SMALL,), 0, 1, ratio, value), False)
        none = ("none", tuple(range(1, 10)), (1, 2))
        for ratio in NO_RATIOS + ((1, 1), (2, 1), (1, 2)):
            self.assert_exactly(accepts_ratio((SMALL,), 1, 0, ratio, none), False)
        same = ("most", (), ONES)
        for ratio in NO_RATIOS + (None, (2, 2), (True, True), (True, 1)):
            self.assert_exactly(accepts_ratio((), 3, 3, ratio, same), False)

    def test_other_words(self):
        for word in ("none", "Most", "least", "", "divisors", "round", None, 0, b"most"):
            value = (word, (("seen", 0, 1, 0),), (1, 2, 2, 2, 2, 2, 2, 2, 2))
            self.assert_exactly(accepts_ratio((SMALL,), 0, 1, (1, 2), value), False)
        for word in ("most", "None", "no", "", "divisors", "round", None, 0, b"none"):
            value = (word, tuple(range(1, 10)), (1, 2))
            self.assert_exactly(accepts_ratio((SMALL,), 1, 0, None, value), False)

    def test_other_values(self):
        for value in OTHER_KINDS + ((), ("most",), ("most", ()), ("most", (), ONES, ()), "most"):
            self.assert_exactly(accepts_ratio((), 3, 3, (1, 1), value), False)
            self.assert_exactly(accepts_ratio((), 3, 2, None, value), False)
        for value in WRONG_DIVISORS:
            self.assert_exactly(accepts_ratio((), 3, 3, (1, 1), ("most", (), value)), False)
            chosen = tuple(range(3, 10))
            self.assert_exactly(accepts_ratio((), 3, 2, None, ("none", chosen, value)), False)

    def test_twisted(self):
        for chance, results in fitting_samples(61, 20):
            for _ in range(4):
                one, other = chance.randint(0, 8), chance.randint(0, 8)
                ratio = greatest_ratio(results, one, other)
                self.assert_judged(
                    lambda value: accepts_ratio(results, one, other, ratio, value),
                    lambda value: is_right(results, one, other, ratio, value),
                    ratio_evidence(results, one, other),
                )

    def test_longer_ways_and_other_divisors(self):
        # Around a round of the product 1, and with all divisors multiplied.
        results = (SMALL, ((2, 1), (2, 0)))
        there, back = ("seen", 0, 1, 0), ("seen", 1, 0, 1)
        for times in range(22):
            steps = (there,) + (back, there) * times
            for row in ((1,) + (2,) * 8, (7,) + (14,) * 19, (10**30,) + (2 * 10**30,) * 8):
                told = accepts_ratio(results, 0, 1, (1, 2), ("most", steps, row))
                self.assert_exactly(told, times < 20)
        value = ("most", (there, back), (1,) + (2,) * 8)
        self.assert_exactly(accepts_ratio(results, 0, 0, (1, 1), value), True)
        self.assert_exactly(accepts_ratio(results, 1, 1, (1, 1), value), False)


class WrongArgumentsTest(Checks, unittest.TestCase):
    def test_errors(self):
        for function in (greatest_ratio, ratio_evidence):
            self.assert_checked(function, [RESULTS_ROW, ONE_ROW, OTHER_ROW])
        rows = [RESULTS_ROW, ONE_ROW, OTHER_ROW, ("ratio", (1, 2), None), ("value", None, None)]
        self.assert_checked(accepts_ratio, rows)

    def test_no_divisors_fit(self):
        for results in ((LOOP,), (SMALL, GREAT), (SMALL,) * 5 + (LOOP,)):
            for one, other in ((0, 0), (0, 1), (8, 0), (8, 8)):
                for function in (greatest_ratio, ratio_evidence):
                    self.assert_not_possible("round", function, results, one, other)
                for ratio in (None, (1, 2), (2, 4)) + OTHER_KINDS:
                    for value in (None, (), ("most", (), ONES), ("none", (0,), (1,)), [], "x"):
                        self.assert_not_possible(
                            "round", accepts_ratio, results, one, other, ratio, value
                        )

    def test_indices_are_checked_before(self):
        for function in (greatest_ratio, ratio_evidence):
            self.assert_bad("one", function, (LOOP,), 9, -1)
            self.assert_bad("other", function, (LOOP,), 8, 9)
        self.assert_bad("one", accepts_ratio, (LOOP,), True, 0, None, None)
        self.assert_bad("other", accepts_ratio, (LOOP,), 0, False, None, None)

    def test_sample_is_right(self):
        self.assertFalse(can_fit((LOOP,)))
        self.assertTrue(can_fit((EVEN,)))


if __name__ == "__main__":
    unittest.main()
