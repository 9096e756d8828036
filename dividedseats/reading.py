"""Reading the texts of methods and of results."""

from dividedseats.checks import check
from dividedseats.errors import TextError
from dividedseats.fitting import MOST_RESULTS
from dividedseats.methods import GREATEST_FIRST, GREATEST_STEP, MOST_FIRSTS
from dividedseats.scanning import check_text, tokens_of
from dividedseats.shares import MOST_PARTIES, MOST_SEATS, MOST_VOTES

KINDS = ("method", "results")

# What can come at each place, in the words and the order of the problems, and the place behind it.
# A text begins at the place that has the name of its kind.
PLACES = {
    "method": (("a number", "firsts"),),
    "firsts": (("a number", "firsts"), ('"+"', "step")),
    "step": (("a number", "last"),),
    "last": (("the end", "over"),),
    "results": (("a number", "votes"), ('":"', "seats"), ("the end", "over")),
    "votes": (("a number", "votes"), ('":"', "seats")),
    "seats": (("a number", "seats"), ('";"', "votes"), ("the end", "over")),
}


def next_tokens(text, kind):
    """Return the list of what can come behind the tokens of the text."""
    check_text(text)
    check(kind in KINDS, "kind")
    tokens = tokens_of(text)
    return [word for word, _ in PLACES[place_behind(tokens[:-1], kind)]]


def read_method(text):
    """Return the method of the text."""
    tokens = read_tokens(text, "method")
    firsts = ()
    # Behind the firsts stand the sign, the step and the end.
    for _, digits, column in tokens[:-3]:
        firsts = with_first(firsts, int(digits), column)
    _, digits, column = tokens[-2]
    step = int(digits)
    refuse(not 1 <= step <= GREATEST_STEP, column, "a step is from 1 to 1000")
    return (firsts, step)


def read_results(text):
    """Return the results of the text."""
    results = ()
    for part in parts_of(read_tokens(text, "results")):
        refuse(len(results) == MOST_RESULTS, part[0][2], "there are at most 6 results")
        results += (read_result(part),)
    return results


def read_tokens(text, kind):
    """Return the tokens of the text, which follow the grammar of the kind."""
    check_text(text)
    tokens = tokens_of(text)
    place_behind(tokens, kind)
    return tokens


def refuse(wrong, column, words):
    """Raise TextError if it is wrong."""
    if wrong:
        raise TextError(column, words)


def place_behind(tokens, kind):
    """Return the place behind the tokens, the beginning of a text of the kind."""
    place = kind
    for token in tokens:
        further = place_further(place, word_of(token))
        if further is None:
            raise TextError(token[2], "expected " + listed(place))
        place = further
    return place


def place_further(place, told):
    """Return the place behind the word that comes at the place, or None if it cannot come."""
    for word, further in PLACES[place]:
        if word == told:
            return further
    return None


def word_of(token):
    """Return the word that tells what the token is."""
    kind, characters, _ = token
    if kind == "number":
        return "a number"
    return "the end" if kind == "end" else '"' + characters + '"'


def listed(place):
    """Return the words of what can come at the place, one behind another."""
    words = [word for word, _ in PLACES[place]]
    if len(words) == 1:
        return words[0]
    return ", ".join(words[:-1]) + " or " + words[-1]


def with_first(firsts, number, column):
    """Return the firsts with one more, which stands at the column."""
    refuse(len(firsts) == MOST_FIRSTS, column, "there are at most 6 firsts")
    refuse(not 1 <= number <= GREATEST_FIRST, column, "a divisor is from 1 to 1000")
    refuse(len(firsts) > 0 and number < firsts[-1], column, "divisors ascend")
    return firsts + (number,)


def parts_of(tokens):
    """Return the tokens of each of the results, with the sign or the end behind it."""
    parts = []
    part = []
    for token in tokens:
        part.append(token)
        if token[1] == ";" or token[0] == "end":
            parts.append(part)
            part = []
    # A text without tokens has no results, not one with the end alone.
    return parts if len(tokens) > 1 else []


def read_result(part):
    """Return the result of its tokens."""
    votes = ()
    seats = ()
    behind = False
    for kind, characters, column in part:
        if kind == "number" and behind:
            seats = with_seats(seats, int(characters), column, len(votes))
        elif kind == "number":
            votes = with_votes(votes, int(characters), column)
        elif characters == ":":
            behind = True
        else:
            refuse(len(seats) < len(votes), column, "a party is missing")
    return (votes, seats)


def with_votes(votes, number, column):
    """Return the votes with those of one more party, which stand at the column."""
    refuse(len(votes) == MOST_PARTIES, column, "there are at most 5 parties")
    refuse(not 1 <= number <= MOST_VOTES, column, "votes are from 1 to 1000000")
    return votes + (number,)


def with_seats(seats, number, column, parties):
    """Return the seats with those of one more of so many parties, which stand at the column."""
    refuse(len(seats) == parties, column, "there is no such party")
    refuse(sum(seats) + number > MOST_SEATS, column, "there are at most 8 seats")
    return seats + (number,)
