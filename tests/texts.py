"""Texts and their tokens, read in another way than the program does: with regular expressions."""

import functools
import re

NO_TOKEN = "no token begins here"
LONG = "a number has at most 8 digits"

# Each token is told by a letter, in the order in which the document lists what can come.
LETTERS = "n+:;$"
WORDS = {"n": "a number", "+": '"+"', ":": '":"', ";": '";"', "$": "the end"}
# If any tokens make a text of a beginning, some of these do.
ENDINGS = ("", "$", "n$", "+n$", "n+n$", ":$")
GRAMMARS = {"method": r"nn*\+n\$", "results": r"(n*:n*(;n*:n*)*)?\$"}


def plain_scan(text):
    """The tokens, or the column and the words of the first problem."""
    tokens = []
    for found in re.finditer("[0-9]+|[^ ]", text):
        characters, column = found.group(), found.start() + 1
        if characters in "+:;":
            tokens.append(("sign", characters, column))
        elif re.fullmatch("[0-9]+", characters) is None:
            return column, NO_TOKEN
        elif len(characters) > 8:
            return column, LONG
        else:
            tokens.append(("number", characters, column))
    return tokens + [("end", "", len(text) + 1)]


def is_beginning(letters, kind):
    """Whether some tokens behind these make a text of the grammar."""
    return any(re.fullmatch(GRAMMARS[kind], letters + more) for more in ENDINGS)


@functools.cache
def can_come(letters, kind):
    """The letters of the tokens that can come behind these, in their order."""
    return [letter for letter in LETTERS if is_beginning(letters + letter, kind)]


def expected(letters, kind):
    words = [WORDS[letter] for letter in can_come(letters, kind)]
    return "expected " + " or ".join(filter(None, [", ".join(words[:-1]), words[-1]]))


def letter_of(token):
    return {"number": "n", "sign": token[1], "end": "$"}[token[0]]


def grammar_problem(tokens, kind):
    """The column and the words at the first token that cannot come, or None."""
    letters = ""
    for token in tokens:
        if letter_of(token) not in can_come(letters, kind):
            return token[2], expected(letters, kind)
        letters += letter_of(token)
    return None


def method_problems(tokens):
    """The columns of all problems of point 111, at one token in their order."""
    *firsts, _, step, _ = tokens
    numbers = [int(token[1]) for token in firsts]
    for at, (_, _, column) in enumerate(firsts):
        if at == 6:
            yield column, 0, "there are at most 6 firsts"
        if numbers[at] not in range(1, 1001):
            yield column, 1, "a divisor is from 1 to 1000"
        if at and numbers[at] < numbers[at - 1]:
            yield column, 2, "divisors ascend"
    if int(step[1]) not in range(1, 1001):
        yield step[2], 0, "a step is from 1 to 1000"


def split(tokens):
    """The tokens of each result: those of its votes, of its seats, and the one behind it."""
    parts = [[]]
    for token in tokens:
        parts[-1].append(token)
        if token[1] == ";":
            parts.append([])
    for part in parts:
        at = [token[1] for token in part].index(":")
        yield part[:at], part[at + 1:-1], part


def results_problems(tokens):
    """The columns of all problems of point 112, at one token in their order."""
    for number, (votes, seats, part) in enumerate(split(tokens)):
        if number == 6:
            yield part[0][2], 0, "there are at most 6 results"
        for at, (_, digits, column) in enumerate(votes):
            if at == 5:
                yield column, 1, "there are at most 5 parties"
            if not 1 <= int(digits) <= 10**6:
                yield column, 2, "votes are from 1 to 1000000"
        for at, (_, digits, column) in enumerate(seats):
            if at == len(votes):
                yield column, 3, "there is no such party"
            if sum(int(token[1]) for token in seats[:at + 1]) > 8:
                yield column, 4, "there are at most 8 seats"
        if len(seats) < len(votes):
            yield part[-1][2], 5, "a party is missing"


def plain_read(text, kind):
    """What the text tells, and None; or None, and the column and the words of its problem."""
    tokens = plain_scan(text)
    if isinstance(tokens, tuple):
        return None, tokens
    problem = grammar_problem(tokens, kind)
    if problem is not None:
        return None, problem
    if kind == "results" and len(tokens) == 1:
        return (), None
    problems = list({"method": method_problems, "results": results_problems}[kind](tokens))
    if problems:
        column, _, words = min(problems)
        return None, (column, words)
    if kind == "method":
        numbers = [int(token[1]) for token in tokens if token[0] == "number"]
        return (tuple(numbers[:-1]), numbers[-1]), None
    return tuple(
        (tuple(int(token[1]) for token in votes), tuple(int(token[1]) for token in seats))
        for votes, seats, _ in split(tokens)
    ), None


def spread(chance, text, most=3):
    """The text with other spaces, where the tokens stay the same."""
    tokens = plain_scan(text)[:-1]
    out = " " * chance.randint(0, most)
    for token, following in zip(tokens, tokens[1:] + [None]):
        both = following is not None and token[0] == following[0] == "number"
        out += token[1] + " " * chance.randint(1 if both else 0, most)
    return out
