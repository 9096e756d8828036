"""The functions of the interface stand in their files, with the arguments that it lists."""

import inspect
import unittest

from dividedseats import (
    alike,
    comparing,
    errors,
    favors,
    fitting,
    keys,
    mergers,
    methods,
    prediction,
    ratios,
    seating,
    shares,
)

INTERFACE = (
    (methods, "is_method", "value"),
    (methods, "divisor", "method index"),
    (methods, "divisors", "method many"),
    (methods, "first_beyond", "method number"),
    (methods, "normal", "method"),
    (methods, "reduced", "method"),
    (methods, "multiplied", "method number"),
    (alike, "have_same", "first second"),
    (alike, "ratio_of", "first second"),
    (alike, "accepts_ratio", "first second value"),
    (alike, "told_indexes", "first second"),
    (alike, "accepts_indexes", "first second value"),
    (shares, "is_votes", "value"),
    (shares, "is_seats", "value votes"),
    (shares, "is_valid", "method votes seats"),
    (shares, "told_wrong", "method votes seats"),
    (shares, "shows_wrong", "method votes seats value"),
    (shares, "count_valid", "method votes house"),
    (shares, "nth_valid", "method votes house index"),
    (shares, "index_of_valid", "method votes seats"),
    (seating, "next_parties", "method votes seats"),
    (seating, "last_parties", "method votes seats"),
    (seating, "told_order", "method votes house"),
    (seating, "accepts_order", "method votes value"),
    (seating, "bounds", "method votes house"),
    (keys, "key_ends", "method votes seats"),
    (keys, "accepts_key", "method votes seats value"),
    (keys, "violation", "method votes seats"),
    (keys, "accepts_violation", "method votes seats value"),
    (keys, "least_seats", "method votes key"),
    (keys, "most_seats", "method votes key"),
    (fitting, "is_result", "value"),
    (fitting, "are_results", "value"),
    (fitting, "can_fit", "results"),
    (fitting, "fit_evidence", "results"),
    (fitting, "accepts_fit", "results value"),
    (fitting, "wrong_in", "results divisors"),
    (prediction, "possible", "results votes house"),
    (prediction, "certain", "results votes house"),
    (prediction, "possible_evidence", "results votes seats"),
    (prediction, "accepts_possible", "results votes seats value"),
    (ratios, "greatest_ratio", "results one other"),
    (ratios, "ratio_evidence", "results one other"),
    (ratios, "accepts_ratio", "results one other ratio value"),
    (comparing, "are_equivalent", "method other"),
    (comparing, "common_ratio", "method other"),
    (comparing, "accepts_ratio", "method other value"),
    (comparing, "telling_votes", "method other"),
    (comparing, "accepts_telling", "method other value"),
    (favors, "favors_smaller", "method other"),
    (favors, "favoring_votes", "method other"),
    (favors, "accepts_favoring", "method other value"),
    (mergers, "merged_votes", "votes one other"),
    (mergers, "is_alone", "method votes seats"),
    (mergers, "first_short_pair", "method"),
    (mergers, "told_loss", "method"),
    (mergers, "told_gain", "method"),
    (mergers, "is_loss", "method value"),
    (mergers, "is_gain", "method value"),
    (errors, "BadValue", "name"),
    (errors, "TooLarge", "what"),
    (errors, "NotPossible", "why"),
    (errors, "TextError", "column words"),
)


class InterfaceTest(unittest.TestCase):
    def test_names_and_arguments(self):
        for module, name, arguments in INTERFACE:
            told = getattr(module, name)
            self.assertEqual(told.__module__, module.__name__)
            self.assertEqual(list(inspect.signature(told).parameters), arguments.split(), name)


if __name__ == "__main__":
    unittest.main()
