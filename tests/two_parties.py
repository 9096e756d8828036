"""Two parties and a house of up to 100 seats, worked out with fractions."""

from fractions import Fraction

from support import OTHER_KINDS, has_key


def span(first, second):
    return 1 + max(len(first[0]), len(second[0]))


def index_pairs(many):
    """The pairs of indexes below the number, by their sums and then by the first ones."""
    pairs = [(a, b) for a in range(many) for b in range(many)]
    return sorted(pairs, key=lambda pair: (pair[0] + pair[1], pair[0]))


def simplest(low, high):
    """The simplest ratio between two fractions: one second integer after another is tried."""
    q = 1
    while True:
        p = (low * q).__floor__() + 1
        if Fraction(p, q) < high:
            return (p, q)
        q += 1


def first_shares(method, votes, house):
    """How many seats the first party has in valid divisions of the house."""
    return [own for own in range(house + 1) if has_key(method, votes, (own, house - own))]


def is_question(value):
    """Whether the value has the form of two votes and a house. Its integers are integers."""
    if len(value) != 2 or not isinstance(value[0], tuple) or len(value[0]) != 2:
        return False
    return min(value[0]) >= 1 and 1 <= value[1] <= 100


NO_QUESTIONS = OTHER_KINDS + (
    2,
    (),
    ((5, 2),),
    ((5, 2), 2, 2),
    [(5, 2), 2],
    ([5, 2], 2),
    ((5, 2), [2]),
    ((5, 2), (2,)),
    ((5, 2), None),
    ((5, 2), True),
    ((5, 2), "2"),
    ((5, 2), 2.0),
    ((5, 2), 0),
    ((5, 2), -2),
    ((5, 2), 101),
    (None, 2),
    ("52", 2),
    ((5,), 2),
    ((), 2),
    ((5, 2, 1), 2),
    ((0, 2), 2),
    ((5, 0), 2),
    ((-5, -2), 2),
    ((5, -2), 2),
    ((True, True), 2),
    ((5, True), 2),
    ((True, 5), 2),
    ((5.0, 2.0), 2),
    (("5", "2"), 2),
    ((None, 2), 2),
    (((5,), (2,)), 2),
    (2, (5, 2)),
)
