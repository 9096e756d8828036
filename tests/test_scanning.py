"""Points 106 and 107: texts and their tokens."""

import itertools
import random
import unittest

from dividedseats.scanning import scan
from support import WRONG_TEXTS, Checks
from texts import LONG, NO_TOKEN, plain_scan

# Blank signs, digits and signs that are no others of the document.
STRANGE = (
    "\t\r\x0b\x0c\x1c\x1f\x85\xa0\u2003\u2028\u3000\ufeff"
    "\xb2\xb9\xbd\u0661\u0967\uff11\u2460\u4e00\u2167"
    "\uff0b\uff1a\uff1b\u037e\xb1"
    "\x00\x7f\xe9\U0001d7d8\U0001f600"
)


class ScanTest(Checks, unittest.TestCase):
    def assert_right(self, text):
        told = plain_scan(text)
        if isinstance(told, list):
            self.assert_exactly(scan(text), told)
        else:
            self.assert_text_error(*told, scan, text)

    def test_texts_of_the_document(self):
        self.assert_exactly(scan("7 15 +10"), [
            ("number", "7", 1),
            ("number", "15", 3),
            ("sign", "+", 6),
            ("number", "10", 7),
            ("end", "", 9),
        ])
        self.assert_exactly(scan("5: 1;"), [
            ("number", "5", 1),
            ("sign", ":", 2),
            ("number", "1", 4),
            ("sign", ";", 5),
            ("end", "", 6),
        ])
        self.assert_exactly(scan(""), [("end", "", 1)])
        self.assert_exactly(scan("   "), [("end", "", 4)])

    def test_all_short_texts(self):
        for many in range(6):
            for characters in itertools.product("07+:; x", repeat=many):
                self.assert_right("".join(characters))

    def test_drawn_texts(self):
        chance = random.Random(106)
        for _ in range(400):
            many = chance.randint(0, 60)
            self.assert_right("".join(chance.choice("0123456789      +:;") for _ in range(many)))
        for _ in range(400):
            many = chance.randint(0, 60)
            self.assert_right("".join(chance.choice("0189+:; -") for _ in range(many)))

    def test_each_character(self):
        for code in range(1, 256):
            if chr(code) != "\n":
                for text in (chr(code), "1" + chr(code), " " + chr(code) + "2"):
                    self.assert_right(text)
        for other in STRANGE:
            for text in (other, "12" + other, " 1 :" + other, other + "1"):
                self.assert_text_error(text.index(other) + 1, NO_TOKEN, scan, text)

    def test_spaces_alone_are_blanks(self):
        for blank in "\t\r\x0b\x0c\xa0\u2003":
            self.assert_text_error(2, NO_TOKEN, scan, "1" + blank + "2")
        self.assert_exactly(scan("1  2"), [("number", "1", 1), ("number", "2", 4), ("end", "", 5)])

    def test_digits(self):
        for many in range(1, 9):
            for digit in "0123456789":
                told = scan(digit * many)
                self.assert_exactly(told, [("number", digit * many, 1), ("end", "", many + 1)])
        for many in (9, 10, 499, 500):
            for digit in "0123456789":
                self.assert_text_error(1, LONG, scan, digit * many)
        self.assert_text_error(3, LONG, scan, "  000000001")
        self.assert_exactly(scan("12345678+12345678")[2], ("number", "12345678", 10))
        self.assert_text_error(10, LONG, scan, "12345678+123456789")
        for digit in "\xb2\u0661\u0967\uff11":
            self.assert_text_error(1, NO_TOKEN, scan, digit)
            self.assert_text_error(9, NO_TOKEN, scan, "12345678" + digit)

    def test_the_first_problem(self):
        self.assert_text_error(1, LONG, scan, "123456789 x")
        self.assert_text_error(1, NO_TOKEN, scan, "x 123456789")
        self.assert_text_error(1, LONG, scan, "123456789x")
        self.assert_text_error(1, NO_TOKEN, scan, "x123456789")
        self.assert_text_error(3, NO_TOKEN, scan, "1 y x")
        self.assert_text_error(3, LONG, scan, "1 000000000 999999999")

    def test_lengths(self):
        for text in ("1 " * 250, " " * 500, ":" * 500, "1" + " " * 499, " " * 499 + ";"):
            self.assertEqual(len(text), 500)
            self.assert_right(text)
            self.assertEqual(scan(text)[-1], ("end", "", 501))
            self.assert_bad("text", scan, text + " ")
        self.assert_text_error(500, NO_TOKEN, scan, " " * 499 + "x")
        self.assert_bad("text", scan, " " * 500 + "x")
        self.assert_text_error(492, LONG, scan, " " * 491 + "123456789")

    def test_wrong_arguments(self):
        self.assert_checked(scan, [("text", "1", WRONG_TEXTS)])

    def test_no_text_comes_before_problems_of_texts(self):
        for text in ("x\n", "\nx", "123456789\n", "x" * 501, "1" * 501, "x \n" * 100):
            self.assert_bad("text", scan, text)
        # A line feed alone is a newline.
        for text in ("1\r", "1\x0b", "1\x0c", "1\x85", "1\u2028"):
            self.assert_text_error(2, NO_TOKEN, scan, text)

    def test_a_changed_list_has_no_effect(self):
        first = scan("7 15 +10")
        expected = repr(first)
        first.clear()
        second = scan("7 15 +10")
        self.assertEqual(repr(second), expected)
        second.append(("number", "1", 1))
        self.assertEqual(repr(scan("7 15 +10")), expected)


if __name__ == "__main__":
    unittest.main()
