"""What several tests share: wrong values of every kind, and the assertions about errors."""

import itertools
import random
from fractions import Fraction

from dividedseats.errors import BadValue, NotPossible, TextError, TooLarge

HONDT = ((1,), 1)
LAGUE = ((1,), 2)
MODIFIED = ((7, 15), 10)

OTHER_KINDS = (None, True, False, "", "1", "12", b"1", 1.0, [], [1], {}, {1: 1}, object())

WRONG_METHODS = OTHER_KINDS + (
    0,
    1,
    (),
    (1,),
    (1, 1),
    (1, (1,)),
    ((1,),),
    ((1,), 1, 1),
    [(1,), 1],
    ([1], 1),
    ((1,), [1]),
    ((1,), (1,)),
    ("1", 1),
    ((1,), "1"),
    (("1",), 1),
    (((1,),), 1),
    (([1],), 1),
    ((None,), 1),
    ((1, None), 1),
    ((1,), None),
    (None, 1),
    ((1.0,), 1),
    ((1,), 1.0),
    ((True,), 1),
    ((False,), 1),
    ((1, True), 1),
    ((1,), True),
    ((1,), False),
    ((), 1),
    ((1,) * 7, 1),
    ((0,), 1),
    ((0, 1), 1),
    ((1001,), 1),
    ((1, 1001), 1),
    ((-1,), 1),
    ((1,), 0),
    ((1,), -1),
    ((1,), 1001),
    ((2, 1), 1),
    ((1, 3, 2), 1),
    ((1, 2, 3, 4, 5, 4), 1),
)

WRONG_VOTES = OTHER_KINDS + (
    0,
    1,
    [7, 4, 1],
    "741",
    (0,),
    (-1,),
    (1000001,),
    (7, 4, 0),
    (7, 1000001, 1),
    (True,),
    (7, 4, True),
    (7, False, 1),
    ("7",),
    (7, None, 1),
    (7.0,),
    ((7,),),
    ([7],),
    (1,) * 6,
)

# For three parties.
WRONG_SEATS = OTHER_KINDS + (
    3,
    "210",
    [2, 1, 0],
    (),
    (2, 1),
    (2, 1, 0, 0),
    (9, 0, 0),
    (0, 0, 9),
    (-1, 0, 0),
    (-1, 5, 4),
    (3, 3, 3),
    (8, 1, 0),
    (True, 1, 0),
    (2, 1, False),
    (2, "1", 0),
    (None, 1, 0),
    (2.0, 1, 0),
    ((2,), 1, 0),
    ([2], 1, 0),
)


def wrong_integers(low, high):
    """Values that are not integers from low to high."""
    return OTHER_KINDS + ((), (low,), low - 1, high + 1, str(low), [low], float(low))


# Results of which no one is right for itself, so that a wrong one can be told anywhere.
RESULT = ((2, 1), (1, 1))
WRONG_RESULT = OTHER_KINDS + (
    1,
    (),
    ((2, 1),),
    ((2, 1), (1, 1), ()),
    [(2, 1), (1, 1)],
    ([2, 1], (1, 1)),
    ((2, 1), [1, 1]),
    ((2, 1), None),
    (None, (1, 1)),
    ((2, 1), (1,)),
    ((2, 1), (1, 1, 0)),
    ((), (0,)),
    ((5,), ()),
    ((0, 1), (1, 1)),
    ((2, 1000001), (1, 1)),
    ((2, True), (1, 1)),
    ((2, 1), (True, 1)),
    ((2, 1), (1, False)),
    ((2, "1"), (1, 1)),
    ((2, 1), (1, "1")),
    ((2, 1.0), (1, 1)),
    ((2, 1), (-1, 1)),
    ((2, 1), (8, 1)),
    ((2, 1), (0, 9)),
    ((1,) * 6, (0,) * 6),
)
WRONG_RESULTS = OTHER_KINDS + (
    (RESULT,) * 7,
    RESULT,
    [RESULT],
    1,
    *((value,) for value in WRONG_RESULT),
    *((RESULT, value) for value in WRONG_RESULT),
    (RESULT,) * 5 + (None,),
)

VOTES = (7, 4, 1)
COMMANDS = (
    ("add", RESULT),
    ("remove", 0),
    ("adopt", HONDT),
    ("abandon",),
    ("apportion", VOTES, 3),
)
WRONG_COMMANDS = OTHER_KINDS + (
    0,
    (),
    "add",
    "abandon",
    b"abandon",
    ["abandon"],
    ["add", RESULT],
    (("abandon",),),
    (None,),
    ("add",),
    ("remove",),
    ("adopt",),
    ("apportion",),
    ("undo",),
    ("Abandon",),
    ("abandon ",),
    ("abandon", None),
    ("abandon", ()),
    ("abandon", HONDT),
    ("abandon", 0),
    (b"abandon",),
    ("add", RESULT, RESULT),
    ("add", RESULT[0], RESULT[1]),
    ("add", (RESULT,)),
    ("Add", RESULT),
    (RESULT, "add"),
    ("remove", 0, 0),
    ("remove", RESULT),
    ("remove", None),
    ("adopt", HONDT, HONDT),
    ("adopt", HONDT[0], HONDT[1]),
    ("adopt", RESULT),
    ("apportion", VOTES),
    ("apportion", VOTES, 3, 3),
    ("apportion", (VOTES, 3)),
    ("apportion", 3, VOTES),
    ("apportion", HONDT, VOTES, 3),
    ("apportion", VOTES, (3, 0, 0)),
    *(("add", value) for value in WRONG_RESULT),
    *(("remove", value) for value in wrong_integers(0, 5)),
    *(("adopt", value) for value in WRONG_METHODS),
    *(("apportion", value, 0) for value in WRONG_VOTES),
    *(("apportion", VOTES, value) for value in wrong_integers(0, 8)),
)

# Not divisors that a tuple tells.
WRONG_DIVISORS = OTHER_KINDS + (
    1,
    "123",
    (),
    (0,),
    (-1, 1),
    (2, 1),
    (1, 3, 2),
    (1, True),
    (True,),
    (False, 1),
    (1, None),
    (1, "2"),
    (1.0,),
    ((1,),),
    [1, 2],
    (1,) * 21,
    tuple(range(20, 0, -1)),
)


# Not texts.
WRONG_TEXTS = (
    None,
    True,
    False,
    0,
    1,
    12,
    1.0,
    b"",
    b"1",
    [],
    ["1"],
    (),
    ("1",),
    {},
    {"1": 1},
    object(),
    "\n",
    "1\n",
    "\n1",
    "1 \n 2",
    "1" + 500 * " ",
    501 * " ",
    501 * "1",
    501 * "x",
    500 * " " + "\n",
    1000 * "1 ",
)


class Checks:
    """Assertions for test cases."""

    def assert_bad(self, name, function, *arguments):
        with self.assertRaises(BadValue) as caught:
            function(*arguments)
        self.assertIs(type(caught.exception), BadValue)
        self.assertEqual(caught.exception.name, name, arguments)

    def assert_not_possible(self, why, function, *arguments):
        with self.assertRaises(NotPossible) as caught:
            function(*arguments)
        self.assertIs(type(caught.exception), NotPossible)
        self.assertEqual(caught.exception.why, why, arguments)

    def assert_too_large(self, what, function, *arguments):
        with self.assertRaises(TooLarge) as caught:
            function(*arguments)
        self.assertIs(type(caught.exception), TooLarge)
        self.assertEqual(caught.exception.what, what, arguments)

    def assert_text_error(self, column, words, function, *arguments):
        with self.assertRaises(TextError) as caught:
            function(*arguments)
        self.assertIs(type(caught.exception), TextError)
        told = (caught.exception.column, caught.exception.words)
        self.assert_exactly(told, (column, words))

    def assert_judged(self, judge, right, value):
        """The judge tells of the value, and of what it is twisted to, what is right.

        judge: a function of the value alone; right: another one, which the test wrote.
        """
        self.assert_exactly(judge(value), right(value))
        for other in twists(value):
            self.assert_exactly(judge(other), right(other))
        for other in wrong_kinds(value):
            self.assert_exactly(judge(other), False)

    def assert_exactly(self, value, expected):
        """The kinds count, too: 1 is not True, and a list is not a tuple."""
        self.assertEqual(repr(value), repr(expected))

    def assert_checked(self, function, rows):
        """Each wrong value is refused by its name, and the first wrong argument is told.

        rows: for each argument of the function its name, a right value, and wrong ones, or
        None where every value is right.
        """
        right = [good for _, good, _ in rows]
        function(*right)
        for at, (name, _, wrong) in enumerate(rows):
            for value in wrong or ():
                arguments = list(right)
                arguments[at] = value
                self.assert_bad(name, function, *arguments)
        self.assert_first_told(function, rows)

    def assert_first_told(self, function, rows):
        checked = [at for at, row in enumerate(rows) if row[2]]
        for many in range(2, len(checked) + 1):
            for chosen in itertools.combinations(checked, many):
                for pick in (0, -1):
                    arguments = [good for _, good, _ in rows]
                    for at in chosen:
                        arguments[at] = rows[at][2][pick]
                    self.assert_bad(rows[chosen[0]][0], function, *arguments)
        # What is judged is wrong as well, and comes behind all that is checked.
        for at in checked:
            arguments = [good if wrong else None for _, good, wrong in rows]
            arguments[at] = rows[at][2][0]
            self.assert_bad(rows[at][0], function, *arguments)


def plain_divisors(method, many):
    """The divisors as point 5 tells them, one after another."""
    firsts, step = method
    row = list(firsts)
    while len(row) < many:
        row.append(row[-1] + step)
    return tuple(row[:many])


def small_methods(greatest, most_firsts):
    """All methods with firsts and steps up to the greatest, with at most so many firsts."""
    return [
        (firsts, step)
        for many in range(1, most_firsts + 1)
        for firsts in itertools.combinations_with_replacement(range(1, greatest + 1), many)
        for step in range(1, greatest + 1)
    ]


def all_seats(parties, house):
    """All seats of a house, in the order of point 19."""
    rows = itertools.product(range(house + 1), repeat=parties)
    return sorted([row for row in rows if sum(row) == house], reverse=True)


def has_key_by(row, votes, seats):
    """Seats are valid if no next quotient is greater than a last one (another way to say it)."""
    following = [Fraction(v, row[s]) for v, s in zip(votes, seats)]
    last = [Fraction(v, row[s - 1]) for v, s in zip(votes, seats) if s > 0]
    return not last or max(following) <= min(last)


def has_key(method, votes, seats):
    return has_key_by(plain_divisors(method, max(seats, default=0) + 1), votes, seats)


def all_valid(method, votes, house):
    """The valid seats of a house, in their order."""
    return [seats for seats in all_seats(len(votes), house) if has_key(method, votes, seats)]


def all_shares(method, votes, house):
    """The valid seats of a house, given one after another in each way in which they can be."""
    row = plain_divisors(method, 20)
    found = {(0,) * len(votes)}
    for _ in range(house):
        more = set()
        for seats in found:
            quotients = [Fraction(many, row[own]) for many, own in zip(votes, seats)]
            for party, item in enumerate(quotients):
                if item == max(quotients):
                    more.add(seats[:party] + (seats[party] + 1,) + seats[party + 1:])
        found = more
    return sorted(found, reverse=True)


def small_method(chance):
    """A method with small firsts, of which several are often equal."""
    firsts = sorted(chance.randint(1, 6) for _ in range(chance.randint(1, 6)))
    return (tuple(firsts), chance.randint(1, 4))


def sample(seed, many, most_parties):
    """Methods, votes and houses, the same ones in each run; small votes make many ties."""
    chance = random.Random(seed)
    for _ in range(many):
        method = small_method(chance)
        parties = chance.randint(0, most_parties)
        votes = tuple(chance.randint(1, 9) for _ in range(parties))
        yield method, votes, chance.randint(0, 8)


def some_seats(chance, parties, most):
    """Seats, valid or not, at most so many together."""
    seats = [0] * parties
    for _ in range(chance.randint(0, most) if parties else 0):
        seats[chance.randrange(parties)] += 1
    return tuple(seats)


def places(value):
    """The ways to each tuple, integer and string in a value of nested tuples."""
    yield ()
    if isinstance(value, tuple):
        for at, item in enumerate(value):
            for rest in places(item):
                yield (at,) + rest


def at_place(value, place):
    for at in place:
        value = value[at]
    return value


def put(value, place, item):
    """The value with the item at the place."""
    if not place:
        return item
    at, rest = place[0], place[1:]
    return value[:at] + (put(value[at], rest, item),) + value[at + 1:]


def twists(value):
    """The value, changed at one place: other integers, items left out, doubled and exchanged."""
    for place in places(value):
        old = at_place(value, place)
        if isinstance(old, tuple):
            for at in range(len(old)):
                yield put(value, place, old[:at] + old[at + 1:])
                yield put(value, place, old[:at] + (old[at],) + old[at:])
                yield put(value, place, old[:at + 1] + old[at + 2:] + old[at + 1:at + 2])
            for at in range(len(old) - 1):
                yield put(value, place, old[:at] + (old[at + 1], old[at]) + old[at + 2:])
            yield put(value, place, old[::-1])
            yield put(value, place, ())
        elif isinstance(old, int) and not isinstance(old, bool):
            for new in (old + 1, old - 1, 0, 1, 2 * old, -old, old + 10**20):
                yield put(value, place, new)


def wrong_kinds(value):
    """The value with something of another kind at one place, at which it is never right."""
    for place in places(value):
        old = at_place(value, place)
        for new in OTHER_KINDS + ((), ("round",), (None,)):
            if not (isinstance(old, tuple) and isinstance(new, tuple)) and old is not new:
                yield put(value, place, new)
        if isinstance(old, tuple):
            yield put(value, place, list(old))
            yield put(value, place, old + (None,))
            yield put(value, place, (None,) + old)
        elif isinstance(old, str):
            for new in (old + " ", old.upper(), old[:-1], old.encode(), (old,)):
                yield put(value, place, new)
        elif isinstance(old, int):
            for new in (float(old), str(old), (old,), [old], bool(old)):
                yield put(value, place, new)
