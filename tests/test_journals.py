"""Points 120, 122, 123 and 126 to 128: replayed journals, and right records."""

import random
import unittest

from archives import behind, is_command, is_right, problem, some_command, some_journal, states
from dividedseats.archive import Archive
from dividedseats.fitting import fit_evidence
from dividedseats.journals import are_right, replayed
from dividedseats.methods import divisors
from support import (
    COMMANDS,
    HONDT,
    LAGUE,
    OTHER_KINDS,
    RESULT,
    VOTES,
    WRONG_COMMANDS,
    Checks,
    has_key,
    put,
    twists,
    wrong_kinds,
)

SMALL, GREAT = ((2, 1), (1, 1)), ((3, 2), (2, 0))
JOURNAL = (("adopt", HONDT), ("apportion", VOTES, 3), ("abandon",), ("add", SMALL), ("remove", 0))
RIGHT = ("add", RESULT), None, ("divisors", (1, 2))
ADOPTED = ("adopt", HONDT), None, ("divisors", (1,))
ROUND = ("round", (("seen", 0, 1, 0), ("seen", 1, 0, 1)))

WRONG_JOURNALS = OTHER_KINDS + (
    0,
    ("abandon",),
    ("add", RESULT),
    [("adopt", HONDT)],
    (("adopt", HONDT),) * 21,
    (("adopt", HONDT), ("abandon",)) * 11,
    (None,) * 21,
    (JOURNAL,),
    *((value,) for value in WRONG_COMMANDS),
    *((("adopt", HONDT), value) for value in WRONG_COMMANDS),
    *((value, ("adopt", HONDT)) for value in WRONG_COMMANDS[:20]),
    (("adopt", HONDT),) * 19 + (("abandon",), None),
)


def records_of(journal):
    return replayed(journal).records()


def other_evidence(chance, results):
    """Evidence about the results that is written in other ways, and wrong one."""
    word, worth = fit_evidence(results)
    if word == "round":
        at = chance.randrange(len(worth))
        yield word, worth[at:] + worth[:at]
        yield word, worth + worth
        yield word, worth * (40 // len(worth))
        yield word, worth * (40 // len(worth) + 1)
        yield word, worth[:-1]
        yield word, worth[::-1]
        yield word, ()
        yield "divisors", (1, 2)
        yield "possible", worth
        return
    full = worth
    while len(full) < 9:
        full += (full[-1] + 1,)
    for times in (2, 3, 1000):
        yield word, tuple(times * item for item in full)
        yield word, tuple(times * item for item in worth)
    yield word, full + tuple(range(full[-1], full[-1] + 11))
    yield word, full + tuple(range(full[-1], full[-1] + 12))
    for method in (HONDT, LAGUE, ((1, 1), 1), ((2, 3), 3)):
        yield word, divisors(method, 1)
        yield word, divisors(method, 9)
        yield word, divisors(method, 20)
    yield word, ()
    yield word, (1,)
    yield "round", worth
    yield "round", ROUND[1]
    yield "round", ()
    yield "possible", worth


class ExampleTest(Checks, unittest.TestCase):
    def test_of_the_interface(self):
        told = (("add", ((2, 1), (1, 1))), None, ("divisors", (1, 2)))
        self.assert_exactly(are_right((told,)), True)
        self.assert_exactly(replayed((("adopt", HONDT),)).method(), HONDT)

    def test_of_point_128(self):
        journal = (("add", ((2, 1), (1, 1))), ("add", ((3, 4), (2, 2))), ("adopt", HONDT))
        archive = replayed(journal)
        self.assert_exactly(archive.records()[1][2], ("divisors", (3, 6, 8)))
        self.assert_exactly(are_right(archive.records()), True)
        self.assert_not_possible("method", replayed, journal + (("add", ((5, 2), (3, 0))),))


class ReplayedTest(Checks, unittest.TestCase):
    def test_any_journals(self):
        chance = random.Random(120)
        for _ in range(80):
            journal = some_journal(chance)
            archive = replayed(journal)
            self.assertIs(type(archive), Archive)
            results, method = states(journal)[-1]
            self.assert_exactly(archive.journal(), journal)
            self.assert_exactly(archive.results(), results)
            self.assert_exactly(archive.method(), method)
        self.assert_exactly(replayed(()).journal(), ())

    def test_commands_that_are_not_possible(self):
        chance = random.Random(121)
        words = {}
        for _ in range(300):
            journal = some_journal(chance, 12)
            state = states(journal)[-1]
            command = some_command(chance, *state)
            why = problem(*state, command)
            if why is not None:
                words[why] = True
                # What stands behind it is not possible either, in another way.
                self.assert_not_possible(why, replayed, journal + (command,))
                self.assert_not_possible(why, replayed, journal + (command, ("remove", 5)))
        self.assertEqual(set(words), {"many", "method", "missing", "none", "parties"})

    def test_wrong_arguments(self):
        self.assert_checked(replayed, [("journal", JOURNAL, WRONG_JOURNALS)])
        for wrong in wrong_kinds(JOURNAL):
            self.assert_bad("journal", replayed, wrong)

    def test_other_journals(self):
        met = {True: 0, False: 0}
        for other in twists(JOURNAL):
            good = len(other) <= 20 and all(is_command(command) for command in other)
            met[good] += 1
            if not good:
                self.assert_bad("journal", replayed, other)
                continue
            state = ((), None)
            for command in other:
                why = problem(*state, command)
                if why is not None:
                    self.assert_not_possible(why, replayed, other)
                    break
                state = behind(*state, command)
            else:
                self.assert_exactly(replayed(other).results(), state[0])
        self.assertGreater(min(met.values()), 30)

    def test_20_and_21_commands(self):
        both = (("adopt", HONDT), ("abandon",))
        archive = replayed(both * 10)
        self.assertEqual(len(archive.journal()), 20)
        self.assert_too_large("commands", archive.act, ("adopt", HONDT))
        self.assert_bad("journal", replayed, both * 10 + both[:1])
        self.assertEqual(len(replayed(both * 9 + both[:1]).journal()), 19)

    def test_a_wrong_journal_comes_before_what_is_not_possible(self):
        # The first command is not possible, the last one is none.
        for wrong in WRONG_COMMANDS[:20]:
            self.assert_bad("journal", replayed, (("abandon",), wrong))
        self.assert_bad("journal", replayed, (("abandon",),) * 21)
        self.assert_not_possible("none", replayed, (("abandon",),) * 20)


class RightTest(Checks, unittest.TestCase):
    def assert_told(self, records):
        self.assert_exactly(are_right(records), is_right(records))

    def test_records_of_archives(self):
        # Point 123.
        chance = random.Random(122)
        words = {}
        for _ in range(120):
            journal = some_journal(chance, parties=chance.choice((2, 3, 5)))
            records = records_of(journal)
            self.assert_exactly(are_right(records), True)
            self.assertTrue(is_right(records))
            self.assert_exactly(tuple(record[0] for record in records), journal)
            words.update({record[2][0]: True for record in records})
        self.assertEqual(set(words), {"divisors", "round"})

    def test_no_records(self):
        self.assert_exactly(are_right(()), True)
        self.assert_exactly(Archive().records(), ())

    def test_other_evidence(self):
        chance = random.Random(123)
        met = {True: 0, False: 0}
        for _ in range(60):
            journal = some_journal(chance, 8)
            records = records_of(journal)
            for at, state in enumerate(states(journal)[1:]):
                for value in other_evidence(chance, state[0]):
                    changed = put(records, (at, 2), value)
                    self.assert_told(changed)
                    met[are_right(changed)] += 1
        self.assertGreater(min(met.values()), 100)

    def test_evidence_about_other_results(self):
        chance = random.Random(124)
        met = {True: 0, False: 0}
        for _ in range(150):
            records = records_of(some_journal(chance, 8))
            for at in range(len(records)):
                for other in range(len(records)):
                    changed = put(records, (at, 2), records[other][2])
                    self.assert_told(changed)
                    met[are_right(changed)] += 1
        self.assertGreater(min(met.values()), 50)

    def test_records_left_out_doubled_and_exchanged(self):
        chance = random.Random(125)
        met = {True: 0, False: 0}
        for _ in range(60):
            records = records_of(some_journal(chance, 8))
            for at in range(len(records)):
                left = records[:at] + records[at + 1:]
                turned = records[:at] + records[at + 1:at + 2] + records[at:at + 1] + records[at + 2:]
                for changed in (left, records[:at], records[at:], turned, records[::-1]):
                    self.assert_told(changed)
                    met[are_right(changed)] += 1
                self.assert_told(records[:at + 1] + records[at:])
        self.assertGreater(min(met.values()), 50)

    def test_commands_that_are_not_possible(self):
        chance = random.Random(126)
        met = 0
        for _ in range(300):
            journal = some_journal(chance, 8)
            state = states(journal)[-1]
            command = some_command(chance, *state)
            if problem(*state, command) is None:
                continue
            met += 1
            seats = (0,) * len(command[1]) if command[0] == "apportion" else None
            for put_in in (seats, None):
                record = (command, put_in, fit_evidence(state[0]))
                changed = records_of(journal) + (record,)
                self.assert_exactly(are_right(changed), False)
                self.assertFalse(is_right(changed))
        self.assertGreater(met, 50)

    def test_seats_that_are_put_in(self):
        records = records_of((("adopt", HONDT), ("apportion", (60, 30, 10), 5)))
        self.assert_exactly(records[1][1], (4, 1, 0))
        # Others are valid, too, but not the first ones.
        self.assertTrue(has_key(HONDT, (60, 30, 10), (3, 2, 0)))
        for seats in (
            (3, 2, 0),
            (5, 0, 0),
            (4, 1),
            (4, 1, 0, 0),
            (),
            None,
            0,
            "410",
            [4, 1, 0],
            (4, True, 0),
            (4, 1, False),
            (4.0, 1, 0),
            (4, 1, None),
            ((4, 1, 0),),
        ):
            self.assert_exactly(are_right(put(records, (1, 1), seats)), False)
        # None for all other commands.
        for at, command in enumerate(JOURNAL):
            told = records_of(JOURNAL)
            if command[0] != "apportion":
                for seats in ((), (0,), (2, 1, 0), (1, 1), 0, False, "", [], "None"):
                    self.assert_exactly(are_right(put(told, (at, 1), seats)), False)
        self.assert_exactly(are_right((ADOPTED, (("apportion", (), 0), (), ("divisors", (1,))))), True)
        self.assert_exactly(are_right((ADOPTED, (("apportion", (), 0), None, ("divisors", (1,))))), False)
        self.assert_exactly(are_right((ADOPTED, (("apportion", (5,), 0), (0,), ("divisors", (1,))))), True)

    def test_20_and_21_records(self):
        for many in range(23):
            self.assert_exactly(are_right((ADOPTED,) * many), many <= 20)
        both = (ADOPTED, (("abandon",), None, ("divisors", (7, 7, 9))))
        self.assert_exactly(are_right(both * 10), True)
        self.assert_exactly(are_right(both * 10 + both[:1]), False)
        self.assert_exactly(are_right((RIGHT,) * 6), True)
        self.assert_exactly(are_right((RIGHT,) * 7), False)

    def test_rounds(self):
        records = records_of((("add", SMALL), ("add", GREAT)))
        self.assert_exactly(are_right(put(records, (1, 2), ROUND)), True)
        for value in (
            ("round", ROUND[1][::-1]),
            ("round", ROUND[1] * 20),
            ("round", (("up", 0),) + ROUND[1]),
            ("round", (("up", 0), ("seen", 1, 0, 1))),
            ("round", ROUND[1] * 21),
            ("round", ROUND[1][:1]),
            ("round", ()),
            ("divisors", ROUND[1]),
            ("divisors", (1, 2)),
            ("divisors", (1, 1)),
        ):
            self.assert_told(put(records, (1, 2), value))
        # A round of the results that come later.
        self.assert_exactly(are_right(put(records, (0, 2), ROUND)), False)

    def test_twisted(self):
        # Each place of each record is changed in many ways.
        chance = random.Random(127)
        journals = [JOURNAL, (("add", SMALL), ("add", GREAT), ("remove", 1), ("adopt", LAGUE))]
        journals += [some_journal(chance, 6) for _ in range(12)]
        for journal in journals:
            self.assert_judged(are_right, is_right, records_of(journal))

    def test_other_values(self):
        wrong = OTHER_KINDS + (
            0,
            RIGHT,
            [RIGHT],
            (list(RIGHT),),
            (RIGHT[:2],),
            (RIGHT + (None,),),
            (RIGHT[::-1],),
            ((RIGHT,),),
            ((),),
            (None,),
            ("add",),
            (RIGHT, None),
            (None, RIGHT),
            (RIGHT, ()),
            (RIGHT, 0),
            (("add", RESULT),),
            ((("add", RESULT), ("divisors", (1, 2))),),
            ((("add", RESULT), None, None),),
            ((("add", RESULT), None, (1, 2)),),
            ((("add", RESULT), None, ["divisors", (1, 2)]),),
            ((("add", RESULT), None, ("divisors", [1, 2])),),
            ((("add", RESULT), None, ("divisors", (True, 2))),),
            ((("add", RESULT), None, ("divisors", (1.0, 2))),),
            ((("add", RESULT), None, ("Divisors", (1, 2))),),
            ((("add", RESULT), None, ("possible", (1, 2))),),
            ((("add", RESULT), None, ("divisors", (1, 2), ())),),
            ((("add", RESULT), None, ("divisors",)),),
            *(((command, None, ("divisors", (1, 2))),) for command in WRONG_COMMANDS),
            *((ADOPTED, (command, None, ("divisors", (1, 2)))) for command in WRONG_COMMANDS),
        )
        for value in wrong:
            self.assert_exactly(are_right(value), False)

    def test_each_command_alone(self):
        for command in COMMANDS:
            for seats in (None, (2, 1, 0)):
                self.assert_told(((command, seats, ("divisors", (1, 2))),))
                self.assert_told((ADOPTED, (command, seats, ("divisors", (1, 2)))))

    def test_nothing_is_carried_out(self):
        # The judge keeps nothing from one call to the next one.
        records = records_of(JOURNAL)
        for _ in range(3):
            self.assert_exactly(are_right(records), True)
            self.assert_exactly(are_right(records + records), is_right(records + records))
            self.assert_exactly(are_right(records[1:]), False)


if __name__ == "__main__":
    unittest.main()
