"""Points 113 to 116: writing the texts of methods and of results, and reading them again."""

import random
import unittest

import oracle
from dividedseats.reading import read_method, read_results
from dividedseats.writing import method_text, results_text
from support import (
    HONDT,
    LAGUE,
    MODIFIED,
    RESULT,
    WRONG_METHODS,
    WRONG_RESULTS,
    Checks,
    small_method,
    small_methods,
    some_seats,
)
from texts import spread

EDGES = (
    HONDT,
    LAGUE,
    MODIFIED,
    ((1000,), 1000),
    ((1000,) * 6, 1000),
    ((1, 2, 3, 4, 5, 6), 1),
    ((1, 1, 999, 1000), 10),
)
RESULTS = (
    (),
    (((), ()),),
    (((), ()),) * 6,
    (((5,), (0,)), ((), ()), ((5,), (8,))),
    (((1000000,) * 5, (2, 2, 2, 1, 1)),) * 6,
    (((1, 10, 100, 1000, 10000), (0, 0, 0, 0, 0)),),
)


def plain_method(method):
    firsts, step = method
    return "".join(f"{first} " for first in firsts) + f"+{step}"


def plain_results(results):
    out = ""
    for votes, seats in results:
        out += "; " if out else ""
        out += " ".join(map(str, votes)) + ":" + "".join(f" {own}" for own in seats)
    return out


def drawn_results(chance):
    """Results of no party to five, with any votes and seats, valid or not."""
    found = []
    for _ in range(chance.randint(0, 6)):
        parties = chance.randint(0, 5)
        most = chance.choice((9, 1000, 1000000))
        votes = tuple(chance.randint(1, most) for _ in range(parties))
        found.append((votes, some_seats(chance, parties, 8)))
    return tuple(found)


class ExampleTest(Checks, unittest.TestCase):
    def test_of_the_interface(self):
        self.assert_exactly(method_text(LAGUE), "1 +2")
        told = results_text((((60, 30, 10), (4, 1, 0)), ((), ())))
        self.assert_exactly(told, "60 30 10: 4 1 0; :")
        self.assert_exactly(results_text(()), "")

    def test_of_point_116(self):
        self.assert_exactly(method_text(MODIFIED), "7 15 +10")
        told = results_text((((60, 30, 10), (4, 1, 0)), ((5,), (1,))))
        self.assert_exactly(told, "60 30 10: 4 1 0; 5: 1")


class WrittenTest(Checks, unittest.TestCase):
    def assert_method(self, method):
        text = method_text(method)
        self.assert_exactly(text, plain_method(method))
        self.assert_exactly(read_method(text), method)

    def assert_results(self, results):
        text = results_text(results)
        self.assertLessEqual(len(text), 500)
        self.assert_exactly(text, plain_results(results))
        self.assert_exactly(read_results(text), results)

    def test_methods(self):
        for method in EDGES + tuple(small_methods(4, 3)):
            self.assert_method(method)
        chance = random.Random(113)
        for most in (6, 1000):
            for _ in range(200):
                firsts = sorted(chance.randint(1, most) for _ in range(chance.randint(1, 6)))
                self.assert_method((tuple(firsts), chance.randint(1, most)))

    def test_results(self):
        for results in RESULTS:
            self.assert_results(results)
        chance = random.Random(114)
        for _ in range(300):
            self.assert_results(drawn_results(chance))
            self.assert_results(oracle.some_results(chance))

    def test_what_was_read(self):
        # Written again, it stands as point 113 says, whatever spaces and zeros there were.
        chance = random.Random(115)
        for _ in range(200):
            method = small_method(chance)
            wide = spread(chance, method_text(method).replace("+", "+" + "0" * chance.randint(0, 3)))
            self.assert_exactly(method_text(read_method(wide)), method_text(method))
            results = drawn_results(chance)
            wide = spread(chance, results_text(results), 1).replace(":", "  :  ")
            if len(wide) <= 500:
                self.assert_exactly(results_text(read_results(wide)), results_text(results))
        self.assert_exactly(method_text(read_method(" 007  15+ 0010 ")), "7 15 +10")
        self.assert_exactly(results_text(read_results(" 060 30 : 04 01;: ")), "60 30: 4 1; :")
        self.assert_exactly(results_text(read_results("   ")), "")

    def test_forms(self):
        self.assert_exactly(method_text(((1, 2, 3, 4, 5, 6), 7)), "1 2 3 4 5 6 +7")
        self.assert_exactly(results_text((((), ()),)), ":")
        self.assert_exactly(results_text((((), ()),) * 3), ":; :; :")
        self.assert_exactly(results_text((RESULT, RESULT)), "2 1: 1 1; 2 1: 1 1")

    def test_needless_firsts_stay(self):
        self.assert_exactly(method_text(((2, 4, 6), 2)), "2 4 6 +2")
        self.assert_exactly(read_method("2 4 6 +2"), ((2, 4, 6), 2))

    def test_wrong_arguments(self):
        self.assert_checked(method_text, [("method", HONDT, WRONG_METHODS)])
        self.assert_checked(results_text, [("results", (RESULT,), WRONG_RESULTS)])


if __name__ == "__main__":
    unittest.main()
