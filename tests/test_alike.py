"""Points 10, 12, 14, 15 and 17: methods whose divisors are the same, or in some ratio."""

import itertools
import unittest
from fractions import Fraction

from dividedseats.alike import (
    accepts_indexes,
    accepts_ratio,
    have_same,
    ratio_of,
    told_indexes,
)
from support import (
    HONDT,
    LAGUE,
    MODIFIED,
    OTHER_KINDS,
    WRONG_METHODS,
    Checks,
    plain_divisors,
    small_methods,
)

# The first six divisors are as those of HONDT, the seventh one is not.
LATE = ((1, 2, 3, 4, 5, 6), 7)

BOTH = [("first", HONDT, WRONG_METHODS), ("second", LAGUE, WRONG_METHODS)]


class SameTest(Checks, unittest.TestCase):
    def test_needless_firsts(self):
        self.assert_exactly(have_same(((1, 3), 2), ((1,), 2)), True)
        self.assert_exactly(have_same(((1, 2, 3, 4, 5, 6), 1), HONDT), True)
        self.assert_exactly(have_same(HONDT, ((1, 2), 1)), True)
        self.assert_exactly(have_same(MODIFIED, ((7, 15, 25), 10)), True)

    def test_others(self):
        self.assert_exactly(have_same(HONDT, LAGUE), False)
        self.assert_exactly(have_same(HONDT, ((2,), 2)), False)
        self.assert_exactly(have_same(LATE, HONDT), False)
        self.assert_exactly(have_same(((1, 1), 1), HONDT), False)

    def test_all_small_ones(self):
        for first, second in itertools.product(small_methods(3, 3), repeat=2):
            same = plain_divisors(first, 20) == plain_divisors(second, 20)
            self.assert_exactly(have_same(first, second), same)

    def test_wrong_arguments(self):
        self.assert_checked(have_same, BOTH)


class RatioTest(Checks, unittest.TestCase):
    def test_ratios(self):
        self.assert_exactly(ratio_of(((2, 4), 2), ((3,), 3)), (2, 3))
        self.assert_exactly(ratio_of(((3,), 3), ((2, 4), 2)), (3, 2))
        self.assert_exactly(ratio_of(((4,), 4), ((6, 12), 6)), (2, 3))
        self.assert_exactly(ratio_of(HONDT, ((1000,), 1000)), (1, 1000))
        self.assert_exactly(ratio_of(((1000,) * 6, 1000), ((1,) * 6, 1)), (1000, 1))
        self.assert_exactly(ratio_of(((6, 10), 8), ((9, 15), 12)), (2, 3))
        self.assert_exactly(ratio_of(MODIFIED, MODIFIED), (1, 1))
        self.assert_exactly(ratio_of(((1, 3), 2), LAGUE), (1, 1))

    def test_none(self):
        self.assert_exactly(ratio_of(HONDT, LAGUE), None)
        self.assert_exactly(ratio_of(MODIFIED, LAGUE), None)
        self.assert_exactly(ratio_of(LATE, HONDT), None)
        self.assert_exactly(ratio_of(((2, 2), 1), ((2,), 1)), None)

    def test_accepted(self):
        two, three = ((2, 4), 2), ((3,), 3)
        for times in (1, 2, 10, 10**50):
            self.assert_exactly(accepts_ratio(two, three, (2 * times, 3 * times)), True)
        self.assert_exactly(accepts_ratio(LATE, LATE, (1, 1)), True)
        self.assert_exactly(accepts_ratio(HONDT, ((1, 2), 1), (7, 7)), True)

    def test_not_accepted(self):
        two, three = ((2, 4), 2), ((3,), 3)
        wrong = [(3, 2), (1, 1), (2, 2), (3, 3), (4, 9), (2, 4), (0, 0), (-2, -3), (2, 0), (0, 3)]
        wrong += [(2 * 10**50, 3 * 10**50 + 1), (2,), (2, 3, 1), (), [2, 3], "23", ("2", "3")]
        wrong += [(2.0, 3.0), (None, None), ((2,), (3,)), 2, Fraction(2, 3), (2, None), ([2], 3)]
        for value in tuple(wrong) + OTHER_KINDS:
            self.assert_exactly(accepts_ratio(two, three, value), False)
        for value in ((True, True), (1, True), (True, 1), (0, 0), (-1, -1), (0.5, 0.5)):
            self.assert_exactly(accepts_ratio(HONDT, HONDT, value), False)

    def test_not_accepted_where_there_is_none(self):
        pairs = [(HONDT, LAGUE), (LATE, HONDT), (HONDT, LATE), (LATE, (LATE[0], 8))]
        pairs += [(((1, 2, 3, 4, 5, 7), 1), HONDT), (((2, 2), 1), ((2,), 1)), (((1,), 1), ((2,), 1))]
        for first, second in pairs:
            for value in itertools.product(range(8), repeat=2):
                self.assert_exactly(accepts_ratio(first, second, value), False)

    def test_wrong_arguments(self):
        self.assert_checked(ratio_of, BOTH)
        self.assert_checked(accepts_ratio, BOTH + [("value", (1, 1), None)])


class IndexesTest(Checks, unittest.TestCase):
    def test_told(self):
        self.assert_exactly(told_indexes(MODIFIED, LAGUE), (0, 1))
        self.assert_exactly(told_indexes(HONDT, LAGUE), (0, 1))
        self.assert_exactly(told_indexes(LATE, HONDT), (0, 6))
        self.assert_exactly(told_indexes(HONDT, LATE), (0, 6))
        self.assert_exactly(told_indexes(LATE, (LATE[0], 8)), (0, 6))
        self.assert_exactly(told_indexes(((1, 2, 3, 4, 5, 7), 1), HONDT), (0, 5))
        self.assert_exactly(told_indexes(((2, 4, 7), 3), ((1,), 1)), (0, 2))
        self.assert_exactly(told_indexes(((1,), 1), ((2,), 1)), (0, 1))

    def test_none_told(self):
        self.assert_exactly(told_indexes(((2, 4), 2), ((3,), 3)), None)
        self.assert_exactly(told_indexes(((1, 3), 2), LAGUE), None)
        self.assert_exactly(told_indexes(LATE, LATE), None)

    def test_accepted(self):
        for value in ((3, 5), (5, 3), (0, 1), (1, 0), (0, 100), (100, 0), (99, 100), (100, 99)):
            self.assert_exactly(accepts_indexes(HONDT, LAGUE, value), True)
        self.assert_exactly(accepts_indexes(LATE, HONDT, (5, 6)), True)
        self.assert_exactly(accepts_indexes(LATE, HONDT, (0, 100)), True)

    def test_not_accepted(self):
        wrong = [(0, 0), (100, 100), (0, 101), (101, 0), (-1, 0), (0, -1), (1000, 2), (0,)]
        wrong += [(-1, 5), (5, -1), (-1, -1), (-1, 101)]
        wrong += [(0, 1, 2), (), [0, 1], "01", ("0", "1"), (0, None), (0.0, 1.0), ((0,), (1,))]
        wrong += [(0, True), (False, 1), (False, True), (True, 5), 1, (0, [1])]
        for value in tuple(wrong) + OTHER_KINDS:
            self.assert_exactly(accepts_indexes(HONDT, LAGUE, value), False)
        for value in itertools.product(range(6), repeat=2):
            self.assert_exactly(accepts_indexes(LATE, HONDT, value), False)
        for value in itertools.product((0, 1, 2, 50, 99, 100), repeat=2):
            self.assert_exactly(accepts_indexes(((2, 4), 2), ((3,), 3), value), False)

    def test_wrong_arguments(self):
        self.assert_checked(told_indexes, BOTH)
        self.assert_checked(accepts_indexes, BOTH + [("value", (0, 1), None)])


class OneKindOfEvidenceTest(Checks, unittest.TestCase):
    def assert_right(self, first, second):
        own, other = plain_divisors(first, 20), plain_divisors(second, 20)
        quotients = [Fraction(one, two) for one, two in zip(own, other)]
        if len(set(quotients)) == 1:
            ratio = (quotients[0].numerator, quotients[0].denominator)
            indexes = None
            self.assertTrue(accepts_ratio(first, second, ratio))
        else:
            ratio = None
            indexes = (0, min(k for k in range(20) if quotients[k] != quotients[0]))
            self.assertTrue(accepts_indexes(first, second, indexes))
            self.assertFalse(accepts_ratio(first, second, (own[0], other[0])))
        self.assert_exactly(ratio_of(first, second), ratio)
        self.assert_exactly(told_indexes(first, second), indexes)
        for one, two in ((0, 1), (1, 2), (2, 3), (3, 1), (5, 9)):
            shown = quotients[one] != quotients[two]
            self.assert_exactly(accepts_indexes(first, second, (one, two)), shown)

    def test_all_small_ones(self):
        for first, second in itertools.product(small_methods(4, 2), repeat=2):
            self.assert_right(first, second)

    def test_many_firsts(self):
        firsts = [(1, 2, 3), (1, 2, 3, 4), (2, 4, 6, 8, 10), (1, 2, 3, 4, 5, 6), (2, 4, 6, 8, 9)]
        methods = [(row, step) for row in firsts for step in (1, 2, 3)]
        for first, second in itertools.product(methods, repeat=2):
            self.assert_right(first, second)


if __name__ == "__main__":
    unittest.main()
