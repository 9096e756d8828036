"""Texts: the tokens that stand in them."""

from dividedseats.checks import check
from dividedseats.errors import TextError

MOST_CHARACTERS = 500
MOST_DIGITS = 8
BLANK = " "
DIGITS = "0123456789"
SIGNS = "+:;"


def scan(text):
    """Return the list of the tokens of the text, each a tuple (kind, characters, column)."""
    check_text(text)
    return tokens_of(text)


def check_text(text):
    """Raise BadValue unless it is a text."""
    check(is_text(text), "text")


def is_text(value):
    """Tell whether the value is a string of at most 500 characters without newlines."""
    return isinstance(value, str) and len(value) <= MOST_CHARACTERS and "\n" not in value


def tokens_of(text):
    """Return the tokens of the text, without checks of its form."""
    tokens = []
    at = 0
    while at < len(text):
        if text[at] == BLANK:
            at += 1
        else:
            token = token_at(text, at)
            tokens.append(token)
            at += len(token[1])
    tokens.append(("end", "", at + 1))
    return tokens


def token_at(text, at):
    """Return the token that begins at the index."""
    if text[at] in SIGNS:
        return ("sign", text[at], at + 1)
    digits = digits_from(text, at)
    if digits == "":
        raise TextError(at + 1, "no token begins here")
    if len(digits) > MOST_DIGITS:
        raise TextError(at + 1, "a number has at most 8 digits")
    return ("number", digits, at + 1)


def digits_from(text, at):
    """Return the digits that stand at the index and directly behind it."""
    end = at
    while end < len(text) and text[end] in DIGITS:
        end += 1
    return text[at:end]
