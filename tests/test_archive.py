"""Points 117 to 121 and 123 to 128: archives, what they tell, and their journals."""

import random
import unittest

import oracle
from archives import behind, is_command, is_right, problem, some_command, some_journal, states
from dividedseats.archive import Archive
from dividedseats.fitting import can_fit, fit_evidence
from dividedseats.journals import are_right, replayed
from dividedseats.prediction import certain, possible
from support import (
    COMMANDS,
    HONDT,
    LAGUE,
    MODIFIED,
    RESULT,
    VOTES,
    WRONG_COMMANDS,
    WRONG_VOTES,
    Checks,
    all_seats,
    all_valid,
    has_key,
    small_method,
    small_methods,
    twists,
    wrong_integers,
    wrong_kinds,
)

FLAT = ((1,) * 6, 1)
# No divisors fit both.
SMALL, GREAT = ((2, 1), (1, 1)), ((3, 2), (2, 0))


def made(*commands):
    archive = Archive()
    for command in commands:
        archive.act(command)
    return archive


def told(archive):
    """All that an archive tells without being asked for votes."""
    return repr((
        archive.results(),
        archive.method(),
        archive.journal(),
        archive.can_fit(),
        archive.records(),
        archive.possible((3, 2), 2),
        archive.certain((3, 2), 2),
    ))


class ArchiveChecks(Checks):
    def assert_unchanged(self, archive, function, *arguments):
        before = told(archive)
        function(*arguments)
        self.assertEqual(told(archive), before)

    def assert_refused(self, why, archive, command):
        """The command is not possible, and nothing has changed behind the error."""
        self.assert_unchanged(archive, self.assert_not_possible, why, archive.act, command)

    def assert_state(self, archive, journal, results, method):
        self.assert_exactly(archive.results(), results)
        self.assert_exactly(archive.method(), method)
        self.assert_exactly(archive.journal(), journal)
        self.assert_exactly(archive.can_fit(), not oracle.has_round(results))


class ExampleTest(ArchiveChecks, unittest.TestCase):
    def test_of_the_interface(self):
        archive = Archive()
        self.assert_exactly(archive.act(("add", ((2, 1), (1, 1)))), 1)
        self.assert_exactly(archive.act(("add", ((3, 4), (2, 2)))), 2)
        self.assert_exactly(archive.can_fit(), True)
        self.assert_exactly(archive.possible((3, 2), 2), [(1, 1)])
        self.assert_exactly(archive.act(("adopt", HONDT)), 3)
        self.assert_exactly(archive.act(("apportion", (7, 4, 1), 3)), 4)
        self.assert_exactly(archive.results()[2], ((7, 4, 1), (2, 1, 0)))
        self.assert_exactly(archive.method(), HONDT)
        self.assert_exactly(archive.act(("abandon",)), 5)
        self.assert_exactly(archive.act(("add", ((5, 2), (3, 0)))), 6)
        self.assert_exactly(archive.can_fit(), False)
        self.assert_exactly(archive.certain((3, 2), 2), None)
        self.assert_exactly(archive.undo(), ("add", ((5, 2), (3, 0))))
        self.assert_exactly(archive.can_fit(), True)
        self.assert_exactly(archive.act(("remove", 0)), 6)
        self.assert_exactly(archive.results()[0], ((3, 4), (2, 2)))
        self.assert_exactly(are_right(archive.records()), True)

    def test_of_point_128(self):
        archive = made(("add", ((2, 1), (1, 1))), ("add", ((3, 4), (2, 2))))
        self.assert_exactly(archive.records()[1][2], ("divisors", (3, 6, 8)))
        self.assert_exactly(archive.act(("adopt", HONDT)), 3)
        self.assert_refused("method", archive, ("add", ((5, 2), (3, 0))))


class NewTest(ArchiveChecks, unittest.TestCase):
    def test_at_the_beginning(self):
        archive = Archive()
        self.assert_state(archive, (), (), None)
        self.assert_exactly(archive.records(), ())
        self.assert_exactly(archive.undo(), None)
        self.assert_exactly(archive.possible((3, 2), 2), [(2, 0), (1, 1)])
        self.assert_exactly(archive.certain((3, 2), 2), None)
        self.assert_exactly(archive.certain((), 0), ())
        self.assert_exactly(archive.possible((), 1), [])

    def test_archives_share_nothing(self):
        one, other = Archive(), Archive()
        one.act(("adopt", HONDT))
        self.assert_state(other, (), (), None)
        other.act(("add", RESULT))
        self.assert_state(one, (("adopt", HONDT),), (), HONDT)
        self.assert_state(Archive(), (), (), None)


class CommandTest(ArchiveChecks, unittest.TestCase):
    def test_add(self):
        archive = Archive()
        journal = ()
        for number in range(6):
            command = ("add", ((number + 1, 2), (1, number)))
            self.assert_exactly(archive.act(command), number + 1)
            journal += (command,)
            results = tuple(command[1] for command in journal)
            self.assert_state(archive, journal, results, None)
        self.assert_refused("many", archive, ("add", RESULT))
        # "many" stands before "method".
        archive = made(("adopt", HONDT), *[("add", RESULT)] * 6)
        self.assertFalse(has_key(HONDT, *GREAT) and has_key(HONDT, (3, 2), (0, 2)))
        self.assert_refused("many", archive, ("add", ((3, 2), (0, 2))))
        self.assert_refused("many", archive, ("add", RESULT))

    def test_add_with_a_method(self):
        for method in (HONDT, LAGUE, MODIFIED, FLAT):
            for house in range(5):
                for seats in all_seats(3, house):
                    archive = made(("adopt", method))
                    command = ("add", (VOTES, seats))
                    if has_key(method, VOTES, seats):
                        self.assert_exactly(archive.act(command), 2)
                        self.assert_exactly(archive.results(), ((VOTES, seats),))
                        self.assert_exactly(archive.method(), method)
                    else:
                        self.assert_refused("method", archive, command)
        archive = made(("adopt", HONDT), ("abandon",))
        self.assert_exactly(archive.act(("add", ((3, 2), (0, 2)))), 3)

    def test_remove(self):
        results = tuple(((number + 1, 2), (1, 1)) for number in range(6))
        for number in range(6):
            archive = made(*[("add", result) for result in results])
            self.assert_exactly(archive.act(("remove", number)), 7)
            self.assert_exactly(archive.results(), results[:number] + results[number + 1:])
        for many in range(7):
            archive = made(*[("add", result) for result in results[:many]])
            for number in range(many, 6):
                self.assert_refused("missing", archive, ("remove", number))
        # They are numbered anew, and there is room again.
        archive = made(*[("add", result) for result in results], ("remove", 0))
        self.assert_refused("missing", archive, ("remove", 5))
        self.assert_exactly(archive.act(("add", RESULT)), 8)
        self.assert_exactly(archive.results(), results[1:] + (RESULT,))
        # The method stays.
        archive = made(("adopt", LAGUE), ("add", RESULT), ("remove", 0))
        self.assert_exactly((archive.results(), archive.method()), ((), LAGUE))

    def test_adopt(self):
        # Point 126.
        for results in ((), (RESULT,), (GREAT,), (SMALL, ((3, 4), (2, 2))), (SMALL, GREAT)):
            for method in small_methods(3, 2):
                archive = made(*[("add", result) for result in results])
                if all(has_key(method, *result) for result in results):
                    self.assert_exactly(archive.act(("adopt", method)), len(results) + 1)
                    self.assert_exactly(archive.method(), method)
                    self.assert_exactly(archive.results(), results)
                else:
                    self.assert_refused("method", archive, ("adopt", method))
        # Whichever was before: another one, or the same.
        archive = made(("adopt", HONDT), ("adopt", LAGUE), ("adopt", LAGUE))
        self.assert_exactly(archive.method(), LAGUE)
        archive = made(("adopt", LAGUE), ("add", ((5, 2), (1, 1))))
        self.assert_refused("method", archive, ("adopt", HONDT))
        self.assert_exactly(archive.method(), LAGUE)
        # It stays as it was written.
        self.assert_exactly(made(("adopt", ((2, 4), 2))).method(), ((2, 4), 2))

    def test_abandon(self):
        archive = Archive()
        self.assert_refused("none", archive, ("abandon",))
        archive = made(("adopt", HONDT), ("add", RESULT))
        self.assert_exactly(archive.act(("abandon",)), 3)
        self.assert_exactly((archive.results(), archive.method()), ((RESULT,), None))
        self.assert_refused("none", archive, ("abandon",))

    def test_apportion(self):
        for method in (HONDT, LAGUE, MODIFIED, FLAT):
            for votes in ((1,), (5, 5), (7, 4, 1), (3, 3, 3), (4, 3, 2, 1)):
                for house in range(6):
                    archive = made(("adopt", method))
                    self.assert_exactly(archive.act(("apportion", votes, house)), 2)
                    seats = all_valid(method, votes, house)[0]
                    self.assert_exactly(archive.results(), ((votes, seats),))
                    self.assert_exactly(archive.method(), method)
        votes = (1000000,) * 5
        archive = made(("adopt", HONDT), ("apportion", votes, 8))
        self.assert_exactly(archive.results(), ((votes, (2, 2, 2, 1, 1)),))
        archive = made(("adopt", FLAT), ("apportion", votes, 8))
        self.assert_exactly(archive.results(), ((votes, (6, 2, 0, 0, 0)),))
        archive = made(("adopt", HONDT), ("apportion", (), 0), ("apportion", (5,), 8))
        self.assert_exactly(archive.results(), (((), ()), ((5,), (8,))))

    def test_apportion_is_not_possible(self):
        full = [("add", RESULT)] * 6
        for votes, house in (((), 0), ((), 8), (VOTES, 3)):
            # "none" stands first, then "many", then "parties".
            self.assert_refused("none", Archive(), ("apportion", votes, house))
            self.assert_refused("none", made(*full), ("apportion", votes, house))
            archive = made(("adopt", HONDT), *full)
            self.assert_refused("many", archive, ("apportion", votes, house))
        for house in range(1, 9):
            self.assert_refused("parties", made(("adopt", HONDT)), ("apportion", (), house))
        self.assert_refused("none", made(("adopt", HONDT), ("abandon",)), ("apportion", VOTES, 3))

    def test_no_more_than_20(self):
        archive = Archive()
        for number in range(20):
            command = (("adopt", HONDT), ("abandon",))[number % 2]
            self.assert_exactly(archive.act(command), number + 1)
        for command in (("adopt", HONDT), ("add", RESULT)):
            self.assert_unchanged(archive, self.assert_too_large, "commands", archive.act, command)
        # What is not possible is told first, and what is no command before it.
        self.assert_refused("none", archive, ("abandon",))
        self.assert_refused("missing", archive, ("remove", 0))
        self.assert_refused("none", archive, ("apportion", (), 1))
        self.assert_unchanged(archive, self.assert_bad, "command", archive.act, ("remove", 6))
        self.assert_exactly(archive.undo(), ("abandon",))
        self.assert_exactly(archive.act(("add", RESULT)), 20)
        self.assert_unchanged(archive, self.assert_too_large, "commands", archive.act, ("abandon",))
        self.assert_refused("method", archive, ("add", ((3, 2), (0, 2))))
        self.assert_refused("method", archive, ("adopt", ((1, 1), 1)))
        self.assertEqual(len(archive.records()), 20)
        self.assert_exactly(are_right(archive.records()), True)
        full = made(("adopt", HONDT), *[("add", RESULT)] * 6, *[("adopt", HONDT)] * 13)
        for command in (("add", RESULT), ("apportion", VOTES, 3), ("apportion", (), 1)):
            self.assert_refused("many", full, command)
        self.assert_unchanged(full, self.assert_too_large, "commands", full.act, ("remove", 5))


class UndoTest(ArchiveChecks, unittest.TestCase):
    def test_an_empty_journal(self):
        archive = Archive()
        for _ in range(3):
            self.assert_exactly(archive.undo(), None)
        self.assert_exactly(archive.act(("adopt", HONDT)), 1)
        self.assert_exactly(archive.undo(), ("adopt", HONDT))
        self.assert_exactly(archive.undo(), None)
        self.assert_state(archive, (), (), None)

    def test_each_kind_of_command(self):
        start = [("add", SMALL), ("adopt", HONDT), ("add", ((3, 4), (2, 2)))]
        for command in COMMANDS + (("remove", 1), ("adopt", LAGUE), ("apportion", (5,), 8)):
            archive = made(*start)
            before = told(archive)
            self.assert_exactly(archive.act(command), 4)
            self.assertNotEqual(told(archive), before)
            self.assert_exactly(archive.undo(), command)
            self.assertEqual(told(archive), before)
            self.assert_exactly(archive.act(command), 4)
            # Each kind stands in the journal once more.
            self.assert_exactly(archive.journal(), tuple(start) + (command,))

    def test_back_to_the_beginning(self):
        chance = random.Random(120)
        for _ in range(40):
            journal = some_journal(chance)
            archive = Archive()
            seen = [told(archive)]
            for number, command in enumerate(journal):
                self.assert_exactly(archive.act(command), number + 1)
                seen.append(told(archive))
            for command in reversed(journal):
                self.assertEqual(told(archive), seen.pop())
                self.assert_exactly(archive.undo(), command)
            self.assertEqual(told(archive), seen.pop())
            self.assert_exactly(archive.undo(), None)
            self.assertEqual(told(archive), told(Archive()))


class WalkTest(ArchiveChecks, unittest.TestCase):
    def test_any_commands(self):
        # Against archives that are told in another way.
        chance = random.Random(118)
        words = {}
        for _ in range(60):
            archive, journal = Archive(), ()
            for _ in range(30):
                if chance.random() < 0.12:
                    self.assert_exactly(archive.undo(), journal[-1] if journal else None)
                    journal = journal[:-1]
                else:
                    journal = self.act(chance, archive, journal, words)
                self.assert_state(archive, journal, *states(journal)[-1])
        self.assertEqual(set(words), {
            ("add", None),
            ("add", "many"),
            ("add", "method"),
            ("remove", None),
            ("remove", "missing"),
            ("adopt", None),
            ("adopt", "method"),
            ("abandon", None),
            ("abandon", "none"),
            ("apportion", None),
            ("apportion", "none"),
            ("apportion", "many"),
            ("apportion", "parties"),
            "commands",
        })

    def act(self, chance, archive, journal, words):
        """Act on the archive, and return the journal behind it."""
        state = states(journal)[-1]
        command = some_command(chance, *state)
        why = problem(*state, command)
        if why is not None:
            self.assert_refused(why, archive, command)
        elif len(journal) == 20:
            words["commands"] = True
            self.assert_unchanged(archive, self.assert_too_large, "commands", archive.act, command)
            return journal
        words[command[0], why] = True
        if why is not None:
            return journal
        self.assert_exactly(archive.act(command), len(journal) + 1)
        return journal + (command,)

    def test_what_is_told_behind_each_command(self):
        chance = random.Random(123)
        for _ in range(25):
            journal = some_journal(chance, 12)
            archive = Archive()
            for number, command in enumerate(journal):
                archive.act(command)
                results = archive.results()
                self.assert_exactly(archive.can_fit(), can_fit(results))
                self.assert_predicted(archive, results)
                last = archive.records()[-1]
                self.assert_record(last, *states(journal[:number + 1])[-2:])
            self.assert_exactly(are_right(archive.records()), True)
            self.assertTrue(is_right(archive.records()))

    def assert_predicted(self, archive, results):
        # Point 124.
        for votes, house in (((3, 2), 2), ((5, 3, 1), 3), ((1, 1), 1), ((), 0), ((), 2)):
            found = [
                seats
                for seats in all_seats(len(votes), house)
                if not oracle.has_round(results + ((votes, seats),))
            ]
            self.assert_exactly(archive.possible(votes, house), found)
            sure = found[0] if len(found) == 1 else None
            self.assert_exactly(archive.certain(votes, house), sure)

    def assert_record(self, record, before, after):
        # Point 123.
        command, seats, value = record
        put_in = after[0][-1][1] if command[0] == "apportion" else None
        self.assert_exactly(seats, put_in)
        self.assertEqual(behind(*before, command), after)
        if oracle.has_round(after[0]):
            self.assertTrue(oracle.is_round(after[0], value[1]))
            self.assertEqual(value[0], "round")
            self.assertEqual(len(value[1]), oracle.fewest(after[0]))
        else:
            self.assert_exactly(value, ("divisors", oracle.told(after[0])))
        self.assert_exactly(value, fit_evidence(after[0]))


class PropertiesTest(ArchiveChecks, unittest.TestCase):
    def test_an_adopted_method_produces_all_results(self):
        # Points 119 and 126.
        chance = random.Random(119)
        met = 0
        for _ in range(150):
            archive = made(*some_journal(chance, 12))
            for method in small_methods(2, 2) + [HONDT, LAGUE, MODIFIED, small_method(chance)]:
                good = all(has_key(method, *result) for result in archive.results())
                other = archive.twin()
                self.assertEqual(other.journal(), archive.journal())
                if good:
                    self.assert_exactly(other.act(("adopt", method)), len(archive.journal()) + 1)
                else:
                    self.assert_not_possible("method", other.act, ("adopt", method))
            if archive.method() is not None:
                met += 1
                for votes, seats in archive.results():
                    self.assertTrue(has_key(archive.method(), votes, seats))
                self.assert_exactly(archive.can_fit(), True)
        self.assertGreater(met, 30)

    def test_what_is_apportioned_was_possible(self):
        # Point 119.
        chance = random.Random(121)
        met = 0
        for _ in range(120):
            journal = some_journal(chance, 15, parties=3, house=4)
            archive = Archive()
            for command in journal:
                if command[0] == "apportion":
                    met += 1
                    found = archive.possible(*command[1:])
                    archive.act(command)
                    self.assertIn(archive.results()[-1][1], found)
                else:
                    archive.act(command)
        self.assertGreater(met, 30)

    def test_only_apportioned_results(self):
        # Point 121.
        chance = random.Random(122)
        for _ in range(60):
            archive, many = Archive(), 0
            for _ in range(30):
                command = some_command(chance, archive.results(), archive.method())
                wrong = problem(archive.results(), archive.method(), command)
                if command[0] == "add" or wrong is not None or len(archive.journal()) == 20:
                    continue
                archive.act(command)
                many = max(many, len(archive.results()))
                self.assert_exactly(archive.can_fit(), True)
                self.assertEqual(archive.records()[-1][2][0], "divisors")

    def test_added_and_taken_out_again(self):
        # Point 121.
        chance = random.Random(124)
        met = 0
        for _ in range(80):
            archive = made(*some_journal(chance, 12))
            many = len(archive.results())
            command = ("add", ((2, 3, 1), (1, chance.randint(0, 2), 0)))
            if problem(archive.results(), archive.method(), command) is None:
                met += 1
                other = archive.twin()
                other.act(command)
                other.act(("remove", many))
                for tell in ("results", "method", "can_fit"):
                    self.assert_exactly(getattr(other, tell)(), getattr(archive, tell)())
                self.assert_exactly(other.possible((3, 2), 2), archive.possible((3, 2), 2))
                more = (command, ("remove", many))
                self.assert_exactly(other.journal(), archive.journal() + more)
        self.assertGreater(met, 30)

    def test_predicted_as_by_the_functions(self):
        chance = random.Random(125)
        for _ in range(40):
            archive = made(*some_journal(chance, 10, parties=5, house=8))
            for _ in range(4):
                votes = tuple(chance.randint(1, 9) for _ in range(chance.randint(0, 4)))
                house = chance.randint(0, 5)
                self.assert_exactly(
                    archive.possible(votes, house), possible(archive.results(), votes, house)
                )
                self.assert_exactly(
                    archive.certain(votes, house), certain(archive.results(), votes, house)
                )


class TwinTest(ArchiveChecks, unittest.TestCase):
    def test_twins_and_replayed_archives(self):
        # Points 120 and 125.
        chance = random.Random(126)
        for _ in range(40):
            archive = made(*some_journal(chance))
            for other in (archive.twin(), replayed(archive.journal()), archive.twin().twin()):
                self.assertIs(type(other), Archive)
                self.assertIsNot(other, archive)
                self.assertEqual(told(other), told(archive))

    def test_changed_on_one_side(self):
        chance = random.Random(127)
        for make in (Archive.twin, lambda archive: replayed(archive.journal())):
            for _ in range(40):
                archive = made(*some_journal(chance, 15))
                other = make(archive)
                for one, two in ((archive, other), (other, archive)):
                    for _ in range(3):
                        still = told(two)
                        self.change(chance, one)
                        self.assertEqual(told(two), still)
                still = told(other)
                while archive.undo() is not None:
                    self.assertEqual(told(other), still)
                self.assertEqual(told(archive), told(Archive()))

    def change(self, chance, archive):
        command = some_command(chance, archive.results(), archive.method())
        wrong = problem(archive.results(), archive.method(), command)
        if wrong is None and len(archive.journal()) < 20:
            archive.act(command)
        else:
            archive.undo()

    def test_a_changed_list_has_no_effect(self):
        archive = made(("add", RESULT))
        first = archive.possible((3, 2), 2)
        expected = repr(first)
        first.append(None)
        first.clear()
        self.assertEqual(repr(archive.possible((3, 2), 2)), expected)
        archive.possible((3, 2), 2).pop()
        self.assertEqual(repr(archive.possible((3, 2), 2)), expected)
        for tell in (archive.results, archive.journal, archive.records):
            self.assertIs(type(tell()), tuple)

    def test_asking_changes_nothing(self):
        chance = random.Random(128)
        for _ in range(20):
            archive = made(*some_journal(chance))
            self.assertEqual(told(archive), told(archive))


class WrongTest(ArchiveChecks, unittest.TestCase):
    def test_wrong_commands(self):
        for archive in (Archive(), made(("adopt", HONDT), ("add", RESULT))):
            before = told(archive)
            for command in WRONG_COMMANDS:
                self.assertFalse(is_command(command), command)
                self.assert_bad("command", archive.act, command)
            self.assertEqual(told(archive), before)

    def test_wrong_values_inside_a_command(self):
        archive = made(("adopt", HONDT), ("add", RESULT))
        before = told(archive)
        for command in COMMANDS + (("add", (VOTES, (2, 1, 0))), ("adopt", ((7, 15), 10))):
            for wrong in wrong_kinds(command):
                self.assert_bad("command", archive.act, wrong)
        self.assertEqual(told(archive), before)

    def test_other_commands(self):
        met = {True: 0, False: 0}
        for command in COMMANDS + (("add", (VOTES, (2, 1, 0))), ("adopt", ((7, 15), 10))):
            for other in twists(command):
                archive = made(("adopt", HONDT), ("add", RESULT))
                good = is_command(other)
                met[good] += 1
                if not good:
                    self.assert_bad("command", archive.act, other)
                    continue
                why = problem((RESULT,), HONDT, other)
                if why is None:
                    self.assert_exactly(archive.act(other), 3)
                else:
                    self.assert_refused(why, archive, other)
        self.assertGreater(min(met.values()), 30)

    def test_wrong_commands_come_first(self):
        # Not possible either, and too many.
        full = made(("adopt", HONDT), *[("add", RESULT)] * 6, *[("adopt", HONDT)] * 13)
        for archive in (full, Archive()):
            for command in (("add", (VOTES, (9, 0, 0))), ("apportion", (), 9), ("remove", 6)):
                self.assert_unchanged(archive, self.assert_bad, "command", archive.act, command)
            for command in (("adopt", ((0,), 1)), ("abandon", 1)):
                self.assert_unchanged(archive, self.assert_bad, "command", archive.act, command)

    def test_wrong_votes_and_houses(self):
        for archive in (Archive(), made(("add", SMALL)), made(("add", SMALL), ("add", GREAT))):
            before = told(archive)
            rows = [("votes", VOTES, WRONG_VOTES), ("house", 2, wrong_integers(0, 8))]
            self.assert_checked(archive.possible, rows)
            self.assert_checked(archive.certain, rows)
            self.assertEqual(told(archive), before)

    def test_every_house(self):
        archive = made(("add", SMALL))
        for house in range(9):
            self.assert_exactly(archive.possible((5,), house), [(house,)])
            self.assert_exactly(archive.certain((5,), house), (house,))
            self.assert_exactly(archive.certain((), house), None if house else ())
        # No divisors fit: nothing is possible.
        archive = made(("add", SMALL), ("add", GREAT))
        for house in range(9):
            self.assert_exactly(archive.possible((5,), house), [])
            self.assert_exactly(archive.certain((5,), house), None)


if __name__ == "__main__":
    unittest.main()
