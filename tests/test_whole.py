"""Points 1 to 8, over all modules: kinds of values, errors, and arguments that stay as they are."""

import copy
import itertools
import unittest

from dividedseats.archive import Archive
from dividedseats.errors import BadValue, NotPossible, SeatError, TextError, TooLarge
from support import COMMANDS, HONDT, LAGUE, MODIFIED, OTHER_KINDS, RESULT, VOTES, Checks
from test_interface import INTERFACE, METHODS

SEATS = (2, 1, 0)
LOSS = ((7, 7, 5), 0, 1, (1, 1, 0), (1, 1))
RECORDS = ((("add", RESULT), None, ("divisors", (1, 2))),)
MOST = ("most", (("seen", 0, 1, 0),), (1, 2, 2, 2, 2, 2, 2, 2, 2))

# Right arguments, by the modules and names of the interface.
CALLS = {
    "methods.is_method": (HONDT,),
    "methods.divisor": (MODIFIED, 10),
    "methods.divisors": (MODIFIED, 5),
    "methods.first_beyond": (MODIFIED, 15),
    "methods.normal": (((2, 4, 6), 2),),
    "methods.reduced": (((2, 4, 6), 2),),
    "methods.multiplied": (LAGUE, 5),
    "alike.have_same": (HONDT, LAGUE),
    "alike.ratio_of": (HONDT, ((2,), 2)),
    "alike.accepts_ratio": (HONDT, ((2,), 2), (1, 2)),
    "alike.told_indexes": (HONDT, LAGUE),
    "alike.accepts_indexes": (HONDT, LAGUE, (0, 1)),
    "shares.is_votes": (VOTES,),
    "shares.is_seats": (SEATS, VOTES),
    "shares.is_valid": (HONDT, VOTES, SEATS),
    "shares.told_wrong": (HONDT, VOTES, (1, 1, 1)),
    "shares.shows_wrong": (HONDT, VOTES, (1, 1, 1), (2, 0)),
    "shares.count_valid": (HONDT, VOTES, 3),
    "shares.nth_valid": (HONDT, VOTES, 3, 0),
    "shares.index_of_valid": (HONDT, VOTES, SEATS),
    "seating.next_parties": (HONDT, VOTES, SEATS),
    "seating.last_parties": (HONDT, VOTES, SEATS),
    "seating.told_order": (HONDT, VOTES, 3),
    "seating.accepts_order": (HONDT, VOTES, (0, 1, 0)),
    "seating.bounds": (HONDT, VOTES, 3),
    "keys.key_ends": (HONDT, VOTES, SEATS),
    "keys.accepts_key": (HONDT, VOTES, SEATS, (3, 1)),
    "keys.violation": (HONDT, VOTES, (1, 1, 1)),
    "keys.accepts_violation": (HONDT, VOTES, (1, 1, 1), (2, 0)),
    "keys.least_seats": (HONDT, VOTES, (2, 1)),
    "keys.most_seats": (HONDT, VOTES, (2, 1)),
    "fitting.is_result": (RESULT,),
    "fitting.are_results": ((RESULT,),),
    "fitting.can_fit": ((RESULT,),),
    "fitting.fit_evidence": ((RESULT,),),
    "fitting.accepts_fit": ((RESULT,), ("divisors", (1, 2))),
    "fitting.wrong_in": ((RESULT,), (1, 1)),
    "prediction.possible": ((), (3, 2), 2),
    "prediction.certain": ((RESULT,), (3, 2), 2),
    "prediction.possible_evidence": ((RESULT,), (3, 2), (1, 1)),
    "prediction.accepts_possible": ((RESULT,), (3, 2), (1, 1), ("possible", (1, 2))),
    "ratios.greatest_ratio": ((RESULT,), 0, 1),
    "ratios.ratio_evidence": ((RESULT,), 0, 1),
    "ratios.accepts_ratio": ((RESULT,), 0, 1, (1, 2), MOST),
    "comparing.are_equivalent": (HONDT, LAGUE),
    "comparing.common_ratio": (HONDT, ((2,), 2)),
    "comparing.accepts_ratio": (HONDT, ((2,), 2), (1, 2)),
    "comparing.telling_votes": (HONDT, LAGUE),
    "comparing.accepts_telling": (HONDT, LAGUE, ((2, 5), 2)),
    "favors.favors_smaller": (HONDT, LAGUE),
    "favors.favoring_votes": (HONDT, LAGUE),
    "favors.accepts_favoring": (HONDT, LAGUE, ((5, 2), 2)),
    "mergers.merged_votes": (VOTES, 0, 2),
    "mergers.is_alone": (HONDT, VOTES, SEATS),
    "mergers.first_short_pair": (LAGUE,),
    "mergers.told_loss": (LAGUE,),
    "mergers.told_gain": (LAGUE,),
    "mergers.is_loss": (LAGUE, LOSS),
    "mergers.is_gain": (HONDT, ((3, 3, 5), 0, 1, (0, 0, 1), (1, 0))),
    "quotas.quotas": (VOTES, SEATS),
    "quotas.below_quota": ((9, 1), (1, 3)),
    "quotas.above_quota": ((9, 1), (1, 3)),
    "quotas.first_transfer": ((9, 1), (1, 3)),
    "quotas.nearest_seats": ((9, 1), (1, 3)),
    "keeping.goes_below": (LAGUE,),
    "keeping.is_always_near": (LAGUE,),
    "keeping.below_evidence": (LAGUE,),
    "keeping.above_evidence": (LAGUE,),
    "keeping.near_evidence": (HONDT,),
    "keeping.accepts_below": (LAGUE, (11, 11, 5, 1, 1)),
    "keeping.accepts_above": (HONDT, (5, 5, 1, 2, 0)),
    "keeping.accepts_not_near": (HONDT, ((5, 2), (2, 0))),
    "margins.margin": (HONDT, VOTES, SEATS, 1, "can gain"),
    "margins.margin_evidence": (HONDT, VOTES, SEATS, 1, "can gain"),
    "margins.accepts_margin": (HONDT, VOTES, SEATS, 1, "can gain", 3, ((1, 2, 0), (2, 1, 0))),
    "scanning.scan": ("7 15 +10",),
    "reading.next_tokens": ("1", "method"),
    "reading.read_method": ("7 15 +10",),
    "reading.read_results": ("5: 1; :",),
    "writing.method_text": (MODIFIED,),
    "writing.results_text": ((RESULT, ((), ())),),
    "journals.are_right": (RECORDS,),
}
# What is told of it is told of an archive, not of a value.
MAKES = {"archive.Archive", "journals.replayed"}
LISTS = {"prediction.possible", "scanning.scan", "reading.next_tokens"}

# What is judged: every value is right there.
JUDGED = {
    "methods.is_method": "value",
    "alike.accepts_ratio": "value",
    "alike.accepts_indexes": "value",
    "shares.is_votes": "value",
    "shares.is_seats": "value",
    "shares.shows_wrong": "value",
    "seating.accepts_order": "value",
    "keys.accepts_key": "value",
    "keys.accepts_violation": "value",
    "fitting.is_result": "value",
    "fitting.are_results": "value",
    "fitting.accepts_fit": "value",
    "prediction.accepts_possible": "value",
    "ratios.accepts_ratio": "ratio value",
    "comparing.accepts_ratio": "value",
    "comparing.accepts_telling": "value",
    "favors.accepts_favoring": "value",
    "mergers.is_loss": "value",
    "mergers.is_gain": "value",
    "keeping.accepts_below": "value",
    "keeping.accepts_above": "value",
    "keeping.accepts_not_near": "value",
    "margins.accepts_margin": "value",
    "journals.are_right": "records",
}
# The votes are not checked there.
UNCHECKED = {("shares.is_seats", "votes")}

# Judged values that can be changed, some of them right but for their kinds.
MUTABLE = (
    [],
    {},
    [1, 2],
    [[2, 1], [1, 1]],
    ([2, 1], [1, 1]),
    ["divisors", [1, 2]],
    ("divisors", [1, 2]),
    ("round", [["seen", 0, 1, 0]]),
    ("round", (["seen", 0, 1, 0],)),
    ("most", [["seen", 0, 1, 0]], [1] * 9),
    ("none", [1, 2, 3], (1, 2)),
    ([1, 2, 0], [2, 1, 0]),
    ([5, 2], 2),
    ([7, 7, 5], 0, 1, [1, 1, 0], [1, 1]),
    [11, 11, 5, 1, 1],
    [(("add", RESULT), None, ("divisors", (1, 2)))],
    ((["add", [[2, 1], [1, 1]]], None, ["divisors", [1, 2]]),),
)

NAMES = {f"{module.__name__.split('.')[1]}.{name}": (module, name) for module, name, _ in INTERFACE}
ARGUMENTS = {
    f"{module.__name__.split('.')[1]}.{name}": arguments.split()
    for module, name, arguments in INTERFACE
}


def function_of(name):
    return getattr(*NAMES[name])


def is_plain(value):
    """Whether it is a value of point 3 without lists."""
    if isinstance(value, tuple):
        return type(value) is tuple and all(is_plain(item) for item in value)
    return value is None or type(value) in (int, str, bool)


class WholeTest(Checks, unittest.TestCase):
    def test_each_function_is_called_here(self):
        functions = {name for name in NAMES if not name.startswith("errors.")}
        self.assertEqual(set(CALLS) | MAKES, functions)
        for name, arguments in CALLS.items():
            self.assertEqual(len(arguments), len(ARGUMENTS[name]), name)

    def test_kinds_of_values(self):
        # Point 3: only what the interface calls a list is one.
        for name, arguments in CALLS.items():
            told = function_of(name)(*arguments)
            if name in LISTS:
                self.assertIs(type(told), list, name)
                self.assertTrue(told and is_plain(tuple(told)), name)
            else:
                self.assertTrue(is_plain(told), name)
            self.assertIsNotNone(told, name)

    def test_equal_arguments_have_equal_results(self):
        # Point 2, in any sequence of the calls.
        first = {name: repr(function_of(name)(*CALLS[name])) for name in CALLS}
        for name in reversed(list(CALLS)):
            self.assertEqual(repr(function_of(name)(*copy.deepcopy(CALLS[name]))), first[name])

    def test_changed_lists_have_no_effect(self):
        for name in LISTS:
            told = function_of(name)(*CALLS[name])
            expected = repr(told)
            for change in (list.clear, list.reverse, lambda row: row.append(None)):
                again = function_of(name)(*CALLS[name])
                self.assertEqual(repr(again), expected)
                self.assertIsNot(again, told)
                change(again)
            self.assertEqual(repr(function_of(name)(*CALLS[name])), expected)

    def test_arguments_are_not_modified(self):
        for name, judged in JUDGED.items():
            for at, argument in enumerate(ARGUMENTS[name]):
                if argument in judged.split():
                    for value in MUTABLE:
                        arguments = list(CALLS[name])
                        arguments[at] = copy.deepcopy(value)
                        self.assert_exactly(function_of(name)(*arguments), False)
                        self.assert_exactly(arguments[at], value)

    def test_refused_arguments_are_not_modified(self):
        for name, arguments in CALLS.items():
            for at, value in itertools.product(range(len(arguments)), MUTABLE):
                row = list(arguments)
                row[at] = copy.deepcopy(value)
                try:
                    function_of(name)(*row)
                except SeatError:
                    pass
                self.assert_exactly(row[at], value)

    def test_other_kinds_of_arguments(self):
        # Each argument is refused by its name, or judged not to be right.
        for name, arguments in CALLS.items():
            for at, argument in enumerate(ARGUMENTS[name]):
                if (name, argument) in UNCHECKED:
                    continue
                for value in OTHER_KINDS:
                    row = arguments[:at] + (value,) + arguments[at + 1:]
                    if argument in JUDGED.get(name, "").split():
                        self.assert_exactly(function_of(name)(*row), False)
                    elif argument == "text" and isinstance(value, str):
                        self.assert_text(name, row)
                    else:
                        self.assert_bad(argument, function_of(name), *row)

    def assert_text(self, name, row):
        """Strings are texts: they are read, or have a problem."""
        try:
            function_of(name)(*row)
        except TextError as problem:
            self.assertGreaterEqual(problem.column, 1)

    def test_errors(self):
        # Point 8.
        raised = (
            (BadValue, "journals.replayed", (None,)),
            (NotPossible, "journals.replayed", ((("abandon",),),)),
            (TextError, "reading.read_method", ("",)),
            (TooLarge, "methods.multiplied", (((1000,), 1), 2)),
        )
        for kind, name, arguments in raised:
            with self.assertRaises(SeatError) as caught:
                function_of(name)(*arguments)
            self.assertIs(type(caught.exception), kind)
            self.assertIsInstance(caught.exception, ValueError)


class ArchiveTest(Checks, unittest.TestCase):
    def told(self, archive):
        return repr([
            getattr(archive, name)(*((3, 2), 2)[:len(arguments.split()) - 1])
            for name, arguments in METHODS.items()
            if name not in ("act", "undo", "twin")
        ])

    def test_kinds_of_values(self):
        archive = Archive()
        for command in COMMANDS[:1] + COMMANDS[2:3] + COMMANDS[4:]:
            self.assertIs(type(archive.act(command)), int)
            for tell in (archive.results, archive.journal, archive.records):
                self.assertIs(type(tell()), tuple)
                self.assertTrue(is_plain(tell()))
            self.assertIs(type(archive.possible((3, 2), 2)), list)
            self.assertIs(type(archive.can_fit()), bool)
            self.assertIs(type(archive.twin()), Archive)
        self.assertIs(type(archive.undo()), tuple)

    def test_it_copies_what_it_is_given(self):
        # Point 2: only tuples are taken, and what is refused is not kept.
        archive = Archive()
        before = self.told(archive)
        for command in (
            ["add", RESULT],
            ("add", [(2, 1), (1, 1)]),
            ("add", ([2, 1], (1, 1))),
            ("adopt", ([1], 1)),
            ("apportion", [7, 4, 1], 3),
        ):
            given = copy.deepcopy(command)
            self.assert_bad("command", archive.act, given)
            self.assert_exactly(given, command)
            self.assertEqual(self.told(archive), before)

    def test_equal_journals_tell_the_same(self):
        commands = COMMANDS[:1] + COMMANDS[2:3] + COMMANDS[4:] + COMMANDS[3:4] + COMMANDS[1:2]
        one, other = Archive(), Archive()
        for command in commands:
            self.assert_exactly(one.act(command), other.act(copy.deepcopy(command)))
            self.assertEqual(self.told(one), self.told(other))
            self.assertEqual(self.told(one), self.told(one))


if __name__ == "__main__":
    unittest.main()
