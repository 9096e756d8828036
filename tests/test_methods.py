"""Points 5, 9 to 11 and 16 to 18: methods, their divisors and their forms."""

import math
import unittest

from dividedseats.errors import TooLarge
from dividedseats.methods import (
    divisor,
    divisors,
    first_beyond,
    index_pairs,
    is_method,
    multiplied,
    normal,
    reduced,
)
from support import (
    HONDT,
    LAGUE,
    MODIFIED,
    WRONG_METHODS,
    Checks,
    plain_divisors,
    small_methods,
    wrong_integers,
)

EDGE_METHODS = (
    ((1,), 1),
    ((1,), 1000),
    ((1000,), 1),
    ((1000,), 1000),
    ((1,) * 6, 1),
    ((1000,) * 6, 1000),
    ((1, 1000), 1),
    ((1, 2, 3, 4, 5, 6), 1),
    ((1, 2, 3, 4, 5, 7), 1),
    ((5, 5, 9), 3),
    ((2, 2, 2, 8, 8, 9), 7),
)


class IsMethodTest(Checks, unittest.TestCase):
    def test_methods(self):
        for method in EDGE_METHODS + (HONDT, LAGUE, MODIFIED, ((3, 3), 1)):
            self.assert_exactly(is_method(method), True)

    def test_other_values(self):
        for value in WRONG_METHODS:
            self.assert_exactly(is_method(value), False)


class IndexPairsTest(Checks, unittest.TestCase):
    def test_order(self):
        # By the sum, and then by the first one.
        self.assert_exactly(index_pairs(1), [(0, 0)])
        expected = [(0, 0), (0, 1), (1, 0), (0, 2), (1, 1), (2, 0), (1, 2), (2, 1), (2, 2)]
        self.assert_exactly(index_pairs(3), expected)
        for many in range(1, 8):
            self.assertEqual(len(set(index_pairs(many))), many * many)


class DivisorsTest(Checks, unittest.TestCase):
    def test_known_methods(self):
        self.assert_exactly(divisors(HONDT, 5), (1, 2, 3, 4, 5))
        self.assert_exactly(divisors(LAGUE, 5), (1, 3, 5, 7, 9))
        self.assert_exactly(divisors(MODIFIED, 5), (7, 15, 25, 35, 45))
        self.assert_exactly(divisor(MODIFIED, 10), 105)

    def test_many_from_0_to_20(self):
        for method in EDGE_METHODS:
            for many in range(21):
                self.assert_exactly(divisors(method, many), plain_divisors(method, many))

    def test_index_from_0_to_100(self):
        for method in EDGE_METHODS:
            row = plain_divisors(method, 101)
            for index in range(101):
                self.assert_exactly(divisor(method, index), row[index])
        self.assert_exactly(divisor(((1000,), 1000), 100), 101000)
        self.assert_exactly(divisor(((1000,) * 6, 1000), 100), 96000)
        self.assert_exactly(divisor(((1,), 1), 0), 1)

    def test_wrong_arguments(self):
        self.assert_checked(
            divisor, [("method", HONDT, WRONG_METHODS), ("index", 3, wrong_integers(0, 100))]
        )
        self.assert_checked(
            divisors, [("method", HONDT, WRONG_METHODS), ("many", 3, wrong_integers(0, 20))]
        )


class FirstBeyondTest(Checks, unittest.TestCase):
    def test_example(self):
        self.assert_exactly(first_beyond(MODIFIED, 15), 2)
        self.assert_exactly(first_beyond(MODIFIED, 25), 3)

    def test_against_the_divisors(self):
        for method in small_methods(4, 3) + list(EDGE_METHODS):
            row = plain_divisors(method, 60)
            for number in range(50):
                least = next(index for index in range(60) if row[index] > number)
                self.assert_exactly(first_beyond(method, number), least)

    def test_around_firsts_and_steps(self):
        method = ((5, 5, 9), 3)
        told = [first_beyond(method, number) for number in (0, 4, 5, 8, 9, 11, 12, 14, 15)]
        self.assert_exactly(told, [0, 0, 2, 2, 3, 3, 4, 4, 5])
        flat = ((1000,) * 6, 1000)
        told = [first_beyond(flat, number) for number in (0, 999, 1000, 1999, 2000)]
        self.assert_exactly(told, [0, 0, 6, 6, 7])

    def test_greatest_number(self):
        self.assert_exactly(first_beyond(((1,), 1), 100000), 100000)
        self.assert_exactly(first_beyond(((1,), 1), 99999), 99999)
        self.assert_exactly(first_beyond(((1000,), 1000), 100000), 100)
        self.assert_exactly(first_beyond(((1000,), 1000), 99999), 99)
        self.assert_exactly(first_beyond(((1,) * 6, 1), 100000), 100005)

    def test_wrong_arguments(self):
        rows = [("method", HONDT, WRONG_METHODS), ("number", 3, wrong_integers(0, 100000))]
        self.assert_checked(first_beyond, rows)


class NormalTest(Checks, unittest.TestCase):
    def test_needless_firsts(self):
        self.assert_exactly(normal(((2, 4, 6), 2)), ((2,), 2))
        self.assert_exactly(normal(((1, 2, 3, 4, 5, 6), 1)), ((1,), 1))
        self.assert_exactly(normal(((1, 2, 4), 2)), ((1, 2), 2))
        self.assert_exactly(normal(((1, 3, 4), 1)), ((1, 3), 1))
        self.assert_exactly(normal(((5, 5, 6, 7), 1)), ((5, 5), 1))
        self.assert_exactly(normal(((2, 4, 5), 2)), ((2, 4, 5), 2))

    def test_nothing_needless(self):
        for method in (HONDT, LAGUE, MODIFIED, ((4,), 4), ((1000,) * 6, 1000), ((3, 3), 3)):
            self.assert_exactly(normal(method), method)

    def test_same_divisors_with_the_fewest_firsts(self):
        for method in small_methods(4, 4):
            firsts, step = normal(method)
            self.assertTrue(is_method((firsts, step)))
            self.assertEqual(step, method[1])
            self.assertEqual(plain_divisors((firsts, step), 20), plain_divisors(method, 20))
            self.assertFalse(len(firsts) > 1 and firsts[-1] - firsts[-2] == step)

    def test_wrong_arguments(self):
        self.assert_checked(normal, [("method", HONDT, WRONG_METHODS)])


class ReducedTest(Checks, unittest.TestCase):
    def test_common_divisors(self):
        self.assert_exactly(reduced(((2, 4, 6), 2)), ((1,), 1))
        self.assert_exactly(reduced(((6, 6), 4)), ((3, 3), 2))
        self.assert_exactly(reduced(((4, 8), 6)), ((2, 4), 3))
        self.assert_exactly(reduced(((4, 8), 3)), ((4, 8), 3))
        self.assert_exactly(reduced(((4, 6, 9), 6)), ((4, 6, 9), 6))
        self.assert_exactly(reduced(((1000,), 1000)), ((1,), 1))
        self.assert_exactly(reduced(((1000,) * 6, 1000)), ((1,) * 6, 1))
        self.assert_exactly(reduced(((12, 36), 24)), ((1,), 2))
        self.assert_exactly(reduced(MODIFIED), MODIFIED)

    def test_it_is_the_normal_form_divided(self):
        for method in small_methods(6, 3):
            firsts, step = normal(method)
            common = math.gcd(step, *firsts)
            lesser, less = reduced(method)
            self.assertEqual(tuple(first * common for first in lesser), firsts)
            self.assertEqual(less * common, step)
            self.assertEqual(math.gcd(less, *lesser), 1)

    def test_wrong_arguments(self):
        self.assert_checked(reduced, [("method", HONDT, WRONG_METHODS)])


class MultipliedTest(Checks, unittest.TestCase):
    def assert_too_large(self, method, number):
        with self.assertRaises(TooLarge) as caught:
            multiplied(method, number)
        self.assertIs(type(caught.exception), TooLarge)
        self.assertEqual(caught.exception.what, "divisors")

    def test_firsts_and_step(self):
        self.assert_exactly(multiplied(LAGUE, 5), ((5,), 10))
        self.assert_exactly(multiplied(((1, 2), 1), 3), ((3, 6), 3))
        self.assert_exactly(multiplied(MODIFIED, 1), MODIFIED)

    def test_bounds(self):
        self.assert_exactly(multiplied(HONDT, 1000), ((1000,), 1000))
        self.assert_exactly(multiplied(((1000,) * 6, 1000), 1), ((1000,) * 6, 1000))
        self.assert_exactly(multiplied(((250, 500), 1), 2), ((500, 1000), 2))
        self.assert_exactly(multiplied(LAGUE, 500), ((500,), 1000))

    def test_beyond_the_bounds(self):
        self.assert_too_large(((2,), 1), 501)
        self.assert_too_large(LAGUE, 501)
        self.assert_too_large(((1, 2), 1), 1000)
        self.assert_too_large(((1, 501), 1), 2)
        self.assert_too_large(((1000,), 1), 2)
        self.assert_too_large(((1,), 1000), 1000)
        # The last first is needless, but it is multiplied as well.
        self.assert_too_large(((500, 1000), 500), 2)

    def test_wrong_arguments(self):
        rows = [("method", HONDT, WRONG_METHODS), ("number", 3, wrong_integers(1, 1000))]
        self.assert_checked(multiplied, rows)

    def test_wrong_arguments_come_before_what_is_too_large(self):
        greatest = ((1000,), 1000)
        for number in wrong_integers(1, 1000):
            self.assert_bad("number", multiplied, greatest, number)
        self.assert_bad("method", multiplied, ((1001,), 1), 2)
        self.assert_bad("method", multiplied, ((1001,), 1), 1001)


if __name__ == "__main__":
    unittest.main()
