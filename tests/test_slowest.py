"""How long the slowest calls take at the greatest inputs that the points let. It is printed."""

import random
import time
import unittest

import oracle
from dividedseats.archive import Archive
from dividedseats.comparing import accepts_telling, telling_votes
from dividedseats.favors import accepts_favoring, favoring_votes
from dividedseats.fitting import accepts_fit, can_fit, fit_evidence, wrong_in
from dividedseats.journals import are_right, replayed
from dividedseats.keeping import (
    above_evidence,
    accepts_above,
    accepts_below,
    accepts_not_near,
    below_evidence,
    near_evidence,
)
from dividedseats.keys import key_ends, least_seats, violation
from dividedseats.margins import accepts_margin, margin, margin_evidence
from dividedseats.mergers import is_loss, told_loss
from dividedseats.prediction import accepts_possible, certain, possible, possible_evidence
from dividedseats.quotas import first_transfer, nearest_seats, quotas
from dividedseats.ratios import accepts_ratio, greatest_ratio, ratio_evidence
from dividedseats.reading import next_tokens, read_method, read_results
from dividedseats.scanning import scan
from dividedseats.seating import accepts_order, bounds, last_parties, next_parties, told_order
from dividedseats.shares import count_valid
from dividedseats.writing import method_text, results_text
from support import HONDT, LAGUE, MODIFIED, plain_divisors

# Far more than any of the calls takes anywhere.
LIMIT = 20

FLAT = ((1000,) * 6, 1)
EQUAL = (1000000,) * 5


def great_results(seed, method):
    """Six results of five parties and eight seats, which the method has given."""
    chance = random.Random(seed)
    row = plain_divisors(method, 9)
    results = []
    for _ in range(6):
        votes = tuple(chance.randint(500000, 1000000) for _ in range(5))
        results.append((votes, oracle.given(chance, row, votes, 8)))
    return tuple(results)


class SlowestTest(unittest.TestCase):
    def timed(self, function, *arguments):
        begin = time.perf_counter()
        told = function(*arguments)
        passed = time.perf_counter() - begin
        name = function.__module__.split(".")[1] + "." + function.__qualname__
        print(f"{name}: {1000 * passed:.1f} ms")
        self.assertLess(passed, LIMIT, name)
        return told

    def setUp(self):
        print()

    def test_seating(self):
        for method, votes in ((HONDT, EQUAL), (FLAT, EQUAL), (LAGUE, (5, 4, 3, 2, 1))):
            self.timed(count_valid, method, votes, 8)
            self.timed(bounds, method, votes, 8)
        order = self.timed(told_order, HONDT, EQUAL, 8)
        self.assertTrue(self.timed(accepts_order, HONDT, EQUAL, order))
        self.timed(next_parties, HONDT, EQUAL, (2, 2, 2, 1, 1))
        self.timed(last_parties, HONDT, EQUAL, (2, 2, 2, 1, 1))

    def test_keys(self):
        self.timed(key_ends, HONDT, EQUAL, (2, 2, 2, 1, 1))
        self.timed(violation, HONDT, EQUAL, (2, 2, 2, 1, 1))
        self.assertEqual(self.timed(least_seats, HONDT, EQUAL, (1000000000, 1001)), (1,) * 5)

    def test_fitting(self):
        for seed, method in ((1, HONDT), (2, MODIFIED), (3, ((1000,) * 6, 1000))):
            results = great_results(seed, method)
            self.assertTrue(self.timed(can_fit, results))
            told = self.timed(fit_evidence, results)
            self.assertTrue(self.timed(accepts_fit, results, told))
            self.assertIsNone(self.timed(wrong_in, results, told[1]))

    def test_fitting_without_divisors(self):
        # Only all of the indexes together make a round of the last result.
        results = great_results(4, HONDT)[:5] + (((999999, 1000000, 1, 1, 1), (8, 0, 0, 0, 0)),)
        self.assertFalse(self.timed(can_fit, results))
        told = self.timed(fit_evidence, results)
        self.assertTrue(self.timed(accepts_fit, results, told))
        steps = (told[1] * 40)[:40 - 40 % len(told[1])]
        self.assertTrue(self.timed(accepts_fit, results, ("round", steps)))

    def test_prediction(self):
        for seed, method in ((5, HONDT), (6, MODIFIED)):
            results = great_results(seed, method)
            for votes in (EQUAL, (1000000, 900001, 800003, 700001, 600011)):
                found = self.timed(possible, results, votes, 8)
                told = self.timed(certain, results, votes, 8)
                self.assertEqual(told, found[0] if len(found) == 1 else None)
                for seats in (found[0], (0, 0, 0, 0, 8)):
                    told = self.timed(possible_evidence, results, votes, seats)
                    self.assertTrue(self.timed(accepts_possible, results, votes, seats, told))
        self.timed(possible, (), EQUAL, 8)

    def test_ratios(self):
        results = great_results(7, MODIFIED)
        for one, other in ((0, 8), (8, 0), (2, 1), (3, 0)):
            ratio = self.timed(greatest_ratio, results, one, other)
            told = self.timed(ratio_evidence, results, one, other)
            self.assertTrue(self.timed(accepts_ratio, results, one, other, ratio, told))

    def test_comparing(self):
        first = ((997, 998, 999, 1000, 1000, 1000), 999)
        second = ((997, 998, 999, 1000, 1000, 1000), 1000)
        told = self.timed(telling_votes, first, second)
        self.assertTrue(self.timed(accepts_telling, first, second, told))
        self.timed(favoring_votes, first, second)
        for value in (((10**100, 10**99), 100), ((1000000, 29), 100)):
            self.timed(accepts_telling, first, second, value)
            self.timed(accepts_favoring, first, second, value)

    def test_mergers(self):
        for method in (((1000,) * 6, 1000), ((1,) * 6, 1), ((1, 1, 1, 1, 1, 1000), 1000)):
            told = self.timed(told_loss, method)
            self.assertTrue(self.timed(is_loss, method, told))

    def test_quotas(self):
        votes = (999983, 1, 2, 3, 1000000)
        self.timed(quotas, votes, (0, 3, 3, 2, 0))
        self.timed(first_transfer, votes, (0, 3, 3, 2, 0))
        nearest = self.timed(nearest_seats, votes, (0, 3, 3, 2, 0))
        self.assertEqual(nearest, (4, 0, 0, 0, 4))

    def test_keeping(self):
        for method in (((1, 2, 3, 4, 5, 6), 1000), ((167, 334, 501, 668, 835, 1000), 1), FLAT):
            told = self.timed(below_evidence, method)
            self.assertTrue(self.timed(accepts_below, method, told))
            told = self.timed(above_evidence, method)
            self.assertTrue(self.timed(accepts_above, method, told))
            told = self.timed(near_evidence, method)
            self.assertTrue(self.timed(accepts_not_near, method, told))
            self.timed(accepts_below, method, (10**500, 10**500, 10**499, 100, 100))
            self.timed(accepts_above, method, (10**500, 10**500, 10**499, 100, 100))
            self.timed(accepts_not_near, method, ((10**500, 10**499), (100, 100)))

    def test_margins(self):
        for method in (HONDT, FLAT, ((1,), 1000)):
            for votes, seats in ((EQUAL, (2, 2, 2, 1, 1)), ((1000000,) * 2, (4, 4))):
                for word in ("can gain", "must gain", "can lose", "must lose"):
                    asked = (method, votes, seats, 1, word)
                    many = self.timed(margin, *asked)
                    told = self.timed(margin_evidence, *asked)
                    if many is not None:
                        self.assertTrue(self.timed(accepts_margin, *asked, many, told))

    def test_scanning(self):
        for text in ("1 " * 250, "12345678 " * 55, ":" * 500, " " * 500):
            self.timed(scan, text)

    def test_reading_and_writing(self):
        for kind in ("method", "results"):
            self.timed(next_tokens, "1 " * 250, kind)
        method = ((1000,) * 6, 1000)
        text = self.timed(method_text, method)
        self.assertEqual(self.timed(read_method, text + " " * (500 - len(text))), method)
        results = great_results(8, HONDT)
        text = self.timed(results_text, results)
        self.assertEqual(self.timed(read_results, text + " " * (500 - len(text))), results)

    def test_archives(self):
        # Six results of five parties, and 20 commands.
        archive = Archive()
        for result in great_results(9, MODIFIED):
            self.timed(archive.act, ("add", result))
        self.timed(archive.act, ("adopt", MODIFIED))
        for _ in range(6):
            archive.act(("remove", 0))
            self.timed(archive.act, ("apportion", EQUAL, 8))
        archive.act(("abandon",))
        self.assertEqual(len(archive.journal()), 20)
        self.ask(archive)

    def test_archives_without_divisors(self):
        archive = Archive()
        for result in great_results(10, HONDT)[:5]:
            archive.act(("add", result))
        for _ in range(7):
            archive.act(("add", ((999999, 1000000, 1, 1, 1), (8, 0, 0, 0, 0))))
            archive.act(("remove", 5))
        archive.act(("add", ((999999, 1000000, 1, 1, 1), (8, 0, 0, 0, 0))))
        self.assertFalse(archive.can_fit())
        self.ask(archive)

    def ask(self, archive):
        records = self.timed(archive.records)
        self.assertTrue(self.timed(are_right, records))
        self.timed(archive.can_fit)
        self.timed(archive.possible, EQUAL, 8)
        self.timed(archive.certain, EQUAL, 8)
        other = self.timed(replayed, archive.journal())
        self.assertEqual(self.timed(other.twin).records(), records)
        self.timed(other.undo)


if __name__ == "__main__":
    unittest.main()
