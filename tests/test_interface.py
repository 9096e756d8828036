"""The functions of the interface stand in their files, with the arguments that it lists."""

import inspect
import unittest

from dividedseats import (
    alike,
    archive,
    comparing,
    errors,
    favors,
    fitting,
    journals,
    keeping,
    keys,
    margins,
    mergers,
    methods,
    prediction,
    quotas,
    ratios,
    reading,
    scanning,
    seating,
    shares,
    writing,
)

INTERFACE = (
    (methods, "is_method", "value"),
    (methods, "divisor", "method index"),
    (methods, "divisors", "method many"),
    (methods, "first_beyond", "method number"),
    (methods, "normal", "method"),
    (methods, "reduced", "method"),
    (methods, "multiplied", "method number"),
    (alike, "have_same", "first second"),
    (alike, "ratio_of", "first second"),
    (alike, "accepts_ratio", "first second value"),
    (alike, "told_indexes", "first second"),
    (alike, "accepts_indexes", "first second value"),
    (shares, "is_votes", "value"),
    (shares, "is_seats", "value votes"),
    (shares, "is_valid", "method votes seats"),
    (shares, "told_wrong", "method votes seats"),
    (shares, "shows_wrong", "method votes seats value"),
    (shares, "count_valid", "method votes house"),
    (shares, "nth_valid", "method votes house index"),
    (shares, "index_of_valid", "method votes seats"),
    (seating, "next_parties", "method votes seats"),
    (seating, "last_parties", "method votes seats"),
    (seating, "told_order", "method votes house"),
    (seating, "accepts_order", "method votes value"),
    (seating, "bounds", "method votes house"),
    (keys, "key_ends", "method votes seats"),
    (keys, "accepts_key", "method votes seats value"),
    (keys, "violation", "method votes seats"),
    (keys, "accepts_violation", "method votes seats value"),
    (keys, "least_seats", "method votes key"),
    (keys, "most_seats", "method votes key"),
    (fitting, "is_result", "value"),
    (fitting, "are_results", "value"),
    (fitting, "can_fit", "results"),
    (fitting, "fit_evidence", "results"),
    (fitting, "accepts_fit", "results value"),
    (fitting, "wrong_in", "results divisors"),
    (prediction, "possible", "results votes house"),
    (prediction, "certain", "results votes house"),
    (prediction, "possible_evidence", "results votes seats"),
    (prediction, "accepts_possible", "results votes seats value"),
    (ratios, "greatest_ratio", "results one other"),
    (ratios, "ratio_evidence", "results one other"),
    (ratios, "accepts_ratio", "results one other ratio value"),
    (comparing, "are_equivalent", "method other"),
    (comparing, "common_ratio", "method other"),
    (comparing, "accepts_ratio", "method other value"),
    (comparing, "telling_votes", "method other"),
    (comparing, "accepts_telling", "method other value"),
    (favors, "favors_smaller", "method other"),
    (favors, "favoring_votes", "method other"),
    (favors, "accepts_favoring", "method other value"),
    (mergers, "merged_votes", "votes one other"),
    (mergers, "is_alone", "method votes seats"),
    (mergers, "first_short_pair", "method"),
    (mergers, "told_loss", "method"),
    (mergers, "told_gain", "method"),
    (mergers, "is_loss", "method value"),
    (mergers, "is_gain", "method value"),
    (quotas, "quotas", "votes seats"),
    (quotas, "below_quota", "votes seats"),
    (quotas, "above_quota", "votes seats"),
    (quotas, "first_transfer", "votes seats"),
    (quotas, "nearest_seats", "votes seats"),
    (keeping, "goes_below", "method"),
    (keeping, "is_always_near", "method"),
    (keeping, "below_evidence", "method"),
    (keeping, "above_evidence", "method"),
    (keeping, "near_evidence", "method"),
    (keeping, "accepts_below", "method value"),
    (keeping, "accepts_above", "method value"),
    (keeping, "accepts_not_near", "method value"),
    (margins, "margin", "method votes seats party word"),
    (margins, "margin_evidence", "method votes seats party word"),
    (margins, "accepts_margin", "method votes seats party word many value"),
    (scanning, "scan", "text"),
    (reading, "next_tokens", "text kind"),
    (reading, "read_method", "text"),
    (reading, "read_results", "text"),
    (writing, "method_text", "method"),
    (writing, "results_text", "results"),
    (archive, "Archive", ""),
    (journals, "replayed", "journal"),
    (journals, "are_right", "records"),
    (errors, "BadValue", "name"),
    (errors, "TooLarge", "what"),
    (errors, "NotPossible", "why"),
    (errors, "TextError", "column words"),
)

# Each of them is defined in the class itself.
METHODS = {
    "act": "self command",
    "undo": "self",
    "results": "self",
    "method": "self",
    "journal": "self",
    "can_fit": "self",
    "possible": "self votes house",
    "certain": "self votes house",
    "records": "self",
    "twin": "self",
}


class InterfaceTest(unittest.TestCase):
    def test_names_and_arguments(self):
        for module, name, arguments in INTERFACE:
            told = getattr(module, name)
            self.assertEqual(told.__module__, module.__name__)
            self.assertEqual(list(inspect.signature(told).parameters), arguments.split(), name)

    def test_methods_of_archives(self):
        self.assertIs(type(archive.Archive), type)
        for name, arguments in METHODS.items():
            told = vars(archive.Archive)[name]
            self.assertTrue(inspect.isfunction(told))
            self.assertEqual(list(inspect.signature(told).parameters), arguments.split(), name)


if __name__ == "__main__":
    unittest.main()
