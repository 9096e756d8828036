"""Point 8: the classes of the errors, and their attributes."""

import itertools
import unittest

from dividedseats.errors import BadValue, NotPossible, SeatError, TextError, TooLarge

BELOW = (BadValue, TooLarge, NotPossible, TextError)


class ErrorsTest(unittest.TestCase):
    def test_all_are_below_the_base_class(self):
        self.assertTrue(issubclass(SeatError, ValueError))
        for kind in BELOW:
            self.assertTrue(issubclass(kind, SeatError))
            self.assertIsNot(kind, SeatError)

    def test_none_below_it_is_below_another(self):
        for one, other in itertools.permutations(BELOW, 2):
            self.assertFalse(issubclass(one, other))

    def test_attributes(self):
        self.assertEqual(BadValue("method").name, "method")
        self.assertEqual(TooLarge("divisors").what, "divisors")
        self.assertEqual(NotPossible("seats").why, "seats")
        problem = TextError(3, "divisors ascend")
        self.assertEqual((problem.column, problem.words), (3, "divisors ascend"))

    def test_they_can_be_caught_as_the_base_class(self):
        for made in (BadValue("a"), TooLarge("a"), NotPossible("a"), TextError(1, "a")):
            with self.assertRaises(SeatError):
                raise made
            with self.assertRaises(ValueError):
                raise made

    def test_they_are_defined_there(self):
        for kind in BELOW + (SeatError,):
            self.assertEqual(kind.__module__, "dividedseats.errors")


if __name__ == "__main__":
    unittest.main()
