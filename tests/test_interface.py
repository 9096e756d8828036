"""The functions of the interface stand in their files, with the arguments that it lists."""

import inspect
import unittest

from dividedseats import alike, errors, methods, shares

INTERFACE = (
    (methods, "is_method", "value"),
    (methods, "divisor", "method index"),
    (methods, "divisors", "method many"),
    (methods, "first_beyond", "method number"),
    (methods, "normal", "method"),
    (methods, "reduced", "method"),
    (methods, "multiplied", "method number"),
    (alike, "have_same", "first second"),
    (alike, "ratio_of", "first second"),
    (alike, "accepts_ratio", "first second value"),
    (alike, "told_indexes", "first second"),
    (alike, "accepts_indexes", "first second value"),
    (shares, "is_votes", "value"),
    (shares, "is_seats", "value votes"),
    (shares, "is_valid", "method votes seats"),
    (shares, "told_wrong", "method votes seats"),
    (shares, "shows_wrong", "method votes seats value"),
    (shares, "count_valid", "method votes house"),
    (shares, "nth_valid", "method votes house index"),
    (shares, "index_of_valid", "method votes seats"),
    (errors, "BadValue", "name"),
    (errors, "TooLarge", "what"),
    (errors, "NotPossible", "why"),
    (errors, "TextError", "column words"),
)


class InterfaceTest(unittest.TestCase):
    def test_names_and_arguments(self):
        for module, name, arguments in INTERFACE:
            told = getattr(module, name)
            self.assertEqual(told.__module__, module.__name__)
            self.assertEqual(list(inspect.signature(told).parameters), arguments.split(), name)


if __name__ == "__main__":
    unittest.main()
