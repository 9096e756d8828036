"""Points 108 to 112 and 114 to 116: reading the texts of methods and of results."""

import itertools
import random
import re
import unittest

from dividedseats.reading import next_tokens, read_method, read_results
from support import OTHER_KINDS, WRONG_TEXTS, Checks
from texts import (
    GRAMMARS,
    LETTERS,
    LONG,
    NO_TOKEN,
    WORDS,
    can_come,
    expected,
    is_beginning,
    plain_read,
    spread,
)

KINDS = {"method": read_method, "results": read_results}
TOKENS = {"n": "1", "+": "+", ":": ":", ";": ";"}
WRONG_WORDS = OTHER_KINDS + (
    0,
    (),
    "methods",
    "result",
    "Method",
    "method ",
    " results",
    "a number",
    b"method",
    ("method",),
    ["results"],
)

MANY_FIRSTS = "there are at most 6 firsts"
WRONG_FIRST = "a divisor is from 1 to 1000"
ASCEND = "divisors ascend"
WRONG_STEP = "a step is from 1 to 1000"
MANY_RESULTS = "there are at most 6 results"
MANY_PARTIES = "there are at most 5 parties"
WRONG_VOTES = "votes are from 1 to 1000000"
NO_PARTY = "there is no such party"
MANY_SEATS = "there are at most 8 seats"
MISSING = "a party is missing"


def beginnings(kind, most):
    """The letters of all beginnings of texts of the kind, of so many tokens."""
    found = [""]
    for letters in found:
        if len(letters) < most:
            found += [letters + letter for letter in can_come(letters, kind) if letter != "$"]
    return found


def written(letters):
    """A text of such tokens, and the column behind them."""
    text = " ".join(TOKENS[letter] for letter in letters)
    return text + " " if text else text


class ReadingTest(Checks, unittest.TestCase):
    def assert_right(self, text):
        for kind, read in KINDS.items():
            value, problem = plain_read(text, kind)
            if problem is None:
                self.assert_exactly(read(text), value)
            else:
                self.assert_text_error(*problem, read, text)

    def assert_problem(self, column, words, text, kind):
        """The problem is told, and the words are those of the document."""
        self.assert_text_error(column, words, KINDS[kind], text)
        self.assertEqual(plain_read(text, kind), (None, (column, words)))


class ExampleTest(ReadingTest):
    def test_of_the_interface(self):
        results = (((60, 30, 10), (4, 1, 0)), ((5,), (1,)))
        self.assert_exactly(read_method("7 15 +10"), ((7, 15), 10))
        self.assert_exactly(read_results("60 30 10: 4 1 0; 5: 1"), results)
        self.assert_exactly(read_results(""), ())
        self.assert_exactly(next_tokens("1", "method"), ["a number", '"+"'])
        self.assert_exactly(next_tokens("", "results"), ["a number", '":"', "the end"])
        self.assert_exactly(next_tokens("5: 1", "results"), ["a number", '";"', "the end"])
        self.assert_exactly(next_tokens("5: 1;", "results"), ["a number", '":"'])
        self.assert_text_error(3, ASCEND, read_method, "7 5 +10")

    def test_of_point_116(self):
        self.assert_exactly(read_method("7 15 +10"), ((7, 15), 10))
        told = (((60, 30, 10), (4, 1, 0)), ((5,), (1,)))
        self.assert_exactly(read_results("60 30 10: 4 1 0; 5: 1"), told)


class GrammarTest(ReadingTest):
    def test_some_endings_are_enough(self):
        # What the tests take for granted: no other tokens make a text of any beginning.
        for kind, grammar in GRAMMARS.items():
            for many in range(4):
                for letters in map("".join, itertools.product(LETTERS, repeat=many)):
                    told = any(
                        re.fullmatch(grammar, letters + "".join(more))
                        for further in range(6)
                        for more in itertools.product(LETTERS, repeat=further)
                    )
                    self.assertEqual(is_beginning(letters, kind), told)

    def test_words(self):
        # Point 109, each place once.
        self.assert_exactly(next_tokens("", "method"), ["a number"])
        self.assert_exactly(next_tokens("1 2", "method"), ["a number", '"+"'])
        self.assert_exactly(next_tokens("1 +", "method"), ["a number"])
        self.assert_exactly(next_tokens("1 +1", "method"), ["the end"])
        self.assert_exactly(next_tokens("1", "results"), ["a number", '":"'])
        self.assert_exactly(next_tokens(":", "results"), ["a number", '";"', "the end"])
        self.assert_exactly(next_tokens(": ;", "results"), ["a number", '":"'])
        self.assert_problem(1, "expected a number", "+", "method")
        self.assert_problem(3, 'expected a number or "+"', "1 :", "method")
        self.assert_problem(4, "expected a number", "1 +", "method")
        self.assert_problem(6, "expected the end", "1 +1 1", "method")
        self.assert_problem(1, 'expected a number, ":" or the end', ";", "results")
        self.assert_problem(3, 'expected a number or ":"', "1 ;", "results")
        self.assert_problem(4, 'expected a number, ";" or the end', "1 :+", "results")
        self.assert_problem(3, 'expected a number or ":"', ":;", "results")

    def test_all_beginnings(self):
        met = 0
        for kind in KINDS:
            for letters in beginnings(kind, 6):
                text = written(letters)
                told = [WORDS[letter] for letter in can_come(letters, kind)]
                self.assert_exactly(next_tokens(text, kind), told)
                self.assert_exactly(next_tokens(text.strip(), kind), told)
                self.assert_others(letters, text, kind)
                self.assert_right(text)
                met += 1
        self.assertGreater(met, 100)

    def assert_others(self, letters, text, kind):
        """Each token that cannot come at the place, the end among them."""
        for letter in LETTERS:
            if letter in can_come(letters, kind):
                continue
            problem = (len(text) + 1, expected(letters, kind))
            if letter == "$":
                self.assert_problem(*problem, text, kind)
                continue
            for behind in ("", " ", " 1", "+:;", " 1 + 1"):
                wrong = text + TOKENS[letter] + behind
                self.assert_problem(*problem, wrong, kind)
                self.assert_text_error(*problem, next_tokens, wrong, kind)

    def test_long_beginnings(self):
        # The grammar does not count: numbers, parties and results may be too many.
        self.assert_exactly(next_tokens("1 " * 250, "method"), ["a number", '"+"'])
        self.assert_exactly(next_tokens("0 9 8 7 6 5 4 3", "method"), ["a number", '"+"'])
        self.assert_exactly(next_tokens("1 +0", "method"), ["the end"])
        self.assert_exactly(next_tokens("0 " * 9 + ":", "results"), ["a number", '";"', "the end"])
        self.assert_exactly(next_tokens(": 9 9;" * 80, "results"), ["a number", '":"'])
        self.assert_problem(501, 'expected a number or "+"', "1 " * 250, "method")
        self.assert_problem(500, "expected the end", "1 " * 247 + "+1   1", "method")

    def test_the_end_at_once(self):
        self.assert_problem(1, "expected a number", "", "method")
        self.assert_problem(501, "expected a number", " " * 500, "method")
        self.assert_exactly(read_results(""), ())
        self.assert_exactly(read_results(" " * 500), ())
        self.assert_exactly(next_tokens(" " * 500, "results"), ["a number", '":"', "the end"])

    def test_all_short_texts(self):
        for many in range(6):
            for characters in itertools.product("09+:; ", repeat=many):
                self.assert_right("".join(characters))

    def test_kinds_do_not_change_the_tokens(self):
        for text, column, words in (("1 x", 3, NO_TOKEN), ("123456789", 1, LONG)):
            for kind in KINDS:
                self.assert_text_error(column, words, next_tokens, text, kind)
                self.assert_problem(column, words, text, kind)


class MethodTest(ReadingTest):
    def test_problems_alone(self):
        self.assert_problem(13, MANY_FIRSTS, "1 1 1 1 1 1 1 +1", "method")
        self.assert_problem(1, WRONG_FIRST, "0 +1", "method")
        self.assert_problem(3, WRONG_FIRST, "1 1001 +1", "method")
        self.assert_problem(3, ASCEND, "7 5 +10", "method")
        self.assert_problem(5, ASCEND, "7 8 7 +10", "method")
        self.assert_problem(4, WRONG_STEP, "1 +0", "method")
        self.assert_problem(4, WRONG_STEP, "1 +1001", "method")

    def test_bounds(self):
        for number in (0, 1, 2, 999, 1000, 1001, 99999999):
            for text in (f"{number} +1", f"1 {number} +1", f"1 +{number}", f"{number} +{number}"):
                self.assert_right(text)
        self.assert_exactly(read_method("1 +1"), ((1,), 1))
        self.assert_exactly(read_method("1000 +1000"), ((1000,), 1000))
        self.assert_exactly(read_method("1 1 2 3 999 1000 +1"), ((1, 1, 2, 3, 999, 1000), 1))
        for many in range(1, 12):
            self.assert_right("5 " * many + "+5")
        self.assert_exactly(read_method("5 " * 6 + "+5"), ((5,) * 6, 5))
        self.assert_problem(13, MANY_FIRSTS, "5 " * 7 + "+5", "method")

    def test_the_first_problem(self):
        # Tokens come before the grammar, and the grammar before the numbers.
        self.assert_problem(9, NO_TOKEN, "7 5 + 0 x", "method")
        self.assert_problem(9, LONG, "7 5 + + 000000001", "method")
        self.assert_problem(6, "expected a number", "0 7 +", "method")
        self.assert_problem(8, "expected the end", "0 7 +1 0", "method")
        # From left to right.
        self.assert_problem(3, WRONG_FIRST, "1 0 1 1 1 1 1 +0", "method")
        self.assert_problem(3, ASCEND, "7 5 0 +0", "method")
        self.assert_problem(1, WRONG_FIRST, "0 7 5 +0", "method")
        self.assert_problem(1, WRONG_FIRST, "1001 1000 +0", "method")
        self.assert_problem(11, ASCEND, "2 2 2 2 2 1 0 +0", "method")
        self.assert_problem(13, MANY_FIRSTS, "2 2 2 2 2 2 2 1 +0", "method")
        # Of several at one number.
        self.assert_problem(3, WRONG_FIRST, "7 0 +1", "method")
        self.assert_problem(13, MANY_FIRSTS, "2 2 2 2 2 2 0 +1", "method")
        self.assert_problem(13, MANY_FIRSTS, "2 2 2 2 2 2 1 +1", "method")
        self.assert_problem(13, MANY_FIRSTS, "2 2 2 2 2 2 1001 +1", "method")

    def test_drawn_texts(self):
        chance = random.Random(111)
        numbers = (0, 1, 1, 2, 3, 5, 999, 1000, 1000, 1001, 99999999)
        for _ in range(1500):
            many = chance.randint(1, 8)
            firsts = [chance.choice(numbers) for _ in range(many)]
            if chance.random() < 0.7:
                firsts.sort()
            text = " ".join(str(item) for item in firsts) + " +" + str(chance.choice(numbers))
            self.assert_right(text)
            self.assert_right(spread(chance, text))


class ResultsTest(ReadingTest):
    def test_problems_alone(self):
        self.assert_problem(13, MANY_RESULTS, ":;" * 6 + ":", "results")
        self.assert_problem(13, MANY_RESULTS, ":;" * 6 + "1: 1", "results")
        self.assert_problem(11, MANY_PARTIES, "1 1 1 1 1 1: 0 0 0 0 0 0", "results")
        self.assert_problem(1, WRONG_VOTES, "0: 1", "results")
        self.assert_problem(3, WRONG_VOTES, "1 1000001: 1 1", "results")
        self.assert_problem(6, NO_PARTY, "1: 1 0", "results")
        self.assert_problem(2, NO_PARTY, ":0", "results")
        self.assert_problem(4, MANY_SEATS, "1: 9", "results")
        self.assert_problem(8, MANY_SEATS, "1 1: 8 1", "results")
        self.assert_problem(7, MISSING, "1 1: 8", "results")
        self.assert_problem(7, MISSING, "1 1: 8; 1: 1", "results")
        self.assert_problem(3, MISSING, "1:", "results")

    def test_bounds(self):
        for number in (0, 1, 2, 999999, 1000000, 1000001, 99999999):
            for text in (f"{number}: 1", f"1 {number}: 1 1", f": ; {number}: 8"):
                self.assert_right(text)
        for first, second in itertools.product(range(11), repeat=2):
            self.assert_right(f"1 1: {first} {second}")
            self.assert_right(f"1 1 1: {first} 0 {second}")
        for parties in range(8):
            for seats in range(8):
                self.assert_right("5 " * parties + ":" + " 1" * seats)
                self.assert_right("5 " * parties + ":" + " 0" * seats + ";" + "5:1")
        for many in range(1, 10):
            for text in (":", "1: 1", "1 2 3: 1 1 1"):
                self.assert_right(";".join([text] * many))
        five = ((1, 2, 3, 4, 1000000), (0, 0, 0, 0, 8))
        self.assert_exactly(read_results("1 2 3 4 1000000: 0 0 0 0 8"), (five,))
        self.assert_exactly(read_results(";".join([":"] * 6)), (((), ()),) * 6)
        self.assert_exactly(read_results(": ; 1: 8;:"), (((), ()), ((1,), (8,)), ((), ())))

    def test_the_first_problem(self):
        # Tokens come before the grammar, and the grammar before the numbers.
        self.assert_problem(6, NO_TOKEN, "0: 9 x", "results")
        self.assert_problem(6, LONG, "0; 9 123456789", "results")
        self.assert_problem(6, 'expected a number, ";" or the end', "0: 9 :", "results")
        self.assert_problem(6, 'expected a number or ":"', "0: 9;", "results")
        # From left to right.
        self.assert_problem(1, WRONG_VOTES, "0 1 1 1 1 1: 9", "results")
        self.assert_problem(4, MANY_SEATS, "1: 9 9; 0:", "results")
        self.assert_problem(6, NO_PARTY, "1: 1 1; 0:", "results")
        self.assert_problem(3, MISSING, "1:; 0:", "results")
        self.assert_problem(11, MISSING, ": ; : ; 1:" + "; :" * 6, "results")
        # Of several at one token.
        self.assert_problem(11, MANY_PARTIES, "1 1 1 1 1 0:", "results")
        self.assert_problem(11, MANY_PARTIES, "1 1 1 1 1 1000001:", "results")
        self.assert_problem(13, MANY_RESULTS, ":;" * 6 + "0 0 0 0 0 0:", "results")
        self.assert_problem(6, NO_PARTY, "1: 8 1", "results")
        self.assert_problem(2, NO_PARTY, ":9", "results")
        self.assert_problem(7, MISSING, "1 1: 8", "results")
        self.assert_problem(6, MANY_SEATS, "1 1: 9", "results")

    def test_seats_are_counted_for_each_result(self):
        told = (((1,), (8,)),) * 6
        self.assert_exactly(read_results("1: 8;" * 5 + "1: 8"), told)
        self.assert_exactly(read_results("1 1: 4 4; 1 1: 5 3"), (((1, 1), (4, 4)), ((1, 1), (5, 3))))

    def test_drawn_texts(self):
        chance = random.Random(112)
        votes = (0, 1, 1, 1, 7, 30, 999999, 1000000, 1000001)
        for _ in range(2500):
            parts = []
            for _ in range(chance.choice((1, 1, 2, 3, 6, 7, 8))):
                parties = chance.choice((0, 1, 1, 2, 2, 3, 5, 6))
                shown = parties + chance.choice((0, 0, 0, 0, 0, 0, 1, -1))
                row = [str(chance.choice(votes[1:-1] * 4 + votes)) for _ in range(parties)]
                own = [str(chance.choice((0, 0, 1, 1, 2, 5))) for _ in range(shown)]
                parts.append(" ".join(row) + ": " + " ".join(own))
            text = "; ".join(parts)
            if len(text) <= 400:
                self.assert_right(text)
                wide = spread(chance, text, 2)
                if len(wide) <= 500:
                    self.assert_right(wide)


class SpacesTest(ReadingTest):
    def test_spaces_change_nothing(self):
        # Point 114.
        chance = random.Random(114)
        for text, kind in (
            ("7 15 +10", "method"),
            ("1 2 3 4 5 6 +1000", "method"),
            ("60 30 10: 4 1 0; 5: 1", "results"),
            (": ; 1 1: 4 4; :", "results"),
        ):
            told = KINDS[kind](text)
            for _ in range(60):
                other = spread(chance, text)
                self.assert_exactly(KINDS[kind](other), told)
                words = next_tokens(text, kind)
                self.assert_exactly(next_tokens(other, kind), words)

    def test_no_spaces_at_all(self):
        self.assert_exactly(read_method("7 15+10"), ((7, 15), 10))
        self.assert_exactly(read_method("7+10"), ((7,), 10))
        self.assert_exactly(read_results("60 30:4 1;5:1;:"), (((60, 30), (4, 1)), ((5,), (1,)), ((), ())))

    def test_spaces_part_numbers(self):
        self.assert_exactly(read_method("1 5 +1 "), ((1, 5), 1))
        self.assert_exactly(read_method("15 +1 "), ((15,), 1))
        self.assert_problem(6, "expected the end", "1 +1 0", "method")
        self.assert_exactly(read_results("1 2: 1 0"), (((1, 2), (1, 0)),))
        self.assert_problem(5, MANY_SEATS, "12: 10", "results")

    def test_zeros_ahead(self):
        self.assert_exactly(read_method("007 00000015 +00010"), ((7, 15), 10))
        self.assert_exactly(read_results("00000060 030: 04 00; 5: 00000001"), (
            ((60, 30), (4, 0)),
            ((5,), (1,)),
        ))
        self.assert_problem(1, WRONG_FIRST, "00000000 +1", "method")
        self.assert_problem(1, LONG, "000000001 +1", "method")
        self.assert_problem(4, LONG, "1: 000000000", "results")

    def test_lengths(self):
        for text, kind in (("7 15 +10", "method"), ("5: 1; :", "results"), ("", "results")):
            for wide in (text + " " * (500 - len(text)), " " * (500 - len(text)) + text):
                self.assertEqual(len(wide), 500)
                self.assert_exactly(KINDS[kind](wide), KINDS[kind](text))
                for longer in (wide + " ", " " + wide):
                    self.assert_bad("text", KINDS[kind], longer)
                    self.assert_bad("text", next_tokens, longer, kind)


class WrongTest(ReadingTest):
    def test_wrong_arguments(self):
        self.assert_checked(read_method, [("text", "1 +1", WRONG_TEXTS)])
        self.assert_checked(read_results, [("text", "1: 1", WRONG_TEXTS)])
        for kind in KINDS:
            rows = [("text", "1", WRONG_TEXTS), ("kind", kind, WRONG_WORDS)]
            self.assert_checked(next_tokens, rows)

    def test_wrong_arguments_come_before_problems(self):
        for text in ("x", "123456789", "+ +", ":"):
            self.assert_bad("kind", next_tokens, text, "methods")
            self.assert_bad("kind", next_tokens, text, None)
            self.assert_bad("text", next_tokens, text + "\n", "methods")
            for read in KINDS.values():
                self.assert_bad("text", read, text + "\n")
                self.assert_bad("text", read, text + " " * 500)

    def test_a_changed_list_has_no_effect(self):
        for text, kind in (("", "method"), ("1", "method"), ("", "results"), (":", "results")):
            first = next_tokens(text, kind)
            told = repr(first)
            first.append("the end")
            first[0] = None
            self.assertEqual(repr(next_tokens(text, kind)), told)
            first.clear()
            self.assertEqual(repr(next_tokens(text, kind)), told)
        # The words of the problems stay, too.
        self.assert_problem(3, 'expected a number or "+"', "1 :", "method")
        self.assert_problem(1, 'expected a number, ":" or the end', ";", "results")


if __name__ == "__main__":
    unittest.main()
