"""What several tests share: wrong values of every kind, and the assertions about errors."""

import itertools

from dividedseats.errors import BadValue

HONDT = ((1,), 1)
LAGUE = ((1,), 2)
MODIFIED = ((7, 15), 10)

OTHER_KINDS = (None, True, False, "", "1", "12", b"1", 1.0, [], [1], {}, {1: 1}, object())

WRONG_METHODS = OTHER_KINDS + (
    0,
    1,
    (),
    (1,),
    (1, 1),
    (1, (1,)),
    ((1,),),
    ((1,), 1, 1),
    [(1,), 1],
    ([1], 1),
    ((1,), [1]),
    ((1,), (1,)),
    ("1", 1),
    ((1,), "1"),
    (("1",), 1),
    (((1,),), 1),
    (([1],), 1),
    ((None,), 1),
    ((1, None), 1),
    ((1,), None),
    (None, 1),
    ((1.0,), 1),
    ((1,), 1.0),
    ((True,), 1),
    ((False,), 1),
    ((1, True), 1),
    ((1,), True),
    ((1,), False),
    ((), 1),
    ((1,) * 7, 1),
    ((0,), 1),
    ((0, 1), 1),
    ((1001,), 1),
    ((1, 1001), 1),
    ((-1,), 1),
    ((1,), 0),
    ((1,), -1),
    ((1,), 1001),
    ((2, 1), 1),
    ((1, 3, 2), 1),
    ((1, 2, 3, 4, 5, 4), 1),
)

WRONG_VOTES = OTHER_KINDS + (
    0,
    1,
    [7, 4, 1],
    "741",
    (0,),
    (-1,),
    (1000001,),
    (7, 4, 0),
    (7, 1000001, 1),
    (True,),
    (7, 4, True),
    (7, False, 1),
    ("7",),
    (7, None, 1),
    (7.0,),
    ((7,),),
    ([7],),
    (1,) * 6,
)

# For three parties.
WRONG_SEATS = OTHER_KINDS + (
    3,
    "210",
    [2, 1, 0],
    (),
    (2, 1),
    (2, 1, 0, 0),
    (9, 0, 0),
    (0, 0, 9),
    (-1, 0, 0),
    (-1, 5, 4),
    (3, 3, 3),
    (8, 1, 0),
    (True, 1, 0),
    (2, 1, False),
    (2, "1", 0),
    (None, 1, 0),
    (2.0, 1, 0),
    ((2,), 1, 0),
    ([2], 1, 0),
)


def wrong_integers(low, high):
    """Values that are not integers from low to high."""
    return OTHER_KINDS + ((), (low,), low - 1, high + 1, str(low), [low], float(low))


class Checks:
    """Assertions for test cases."""

    def assert_bad(self, name, function, *arguments):
        with self.assertRaises(BadValue) as caught:
            function(*arguments)
        self.assertIs(type(caught.exception), BadValue)
        self.assertEqual(caught.exception.name, name, arguments)

    def assert_exactly(self, value, expected):
        """The kinds count, too: 1 is not True, and a list is not a tuple."""
        self.assertEqual(repr(value), repr(expected))

    def assert_checked(self, function, rows):
        """Each wrong value is refused by its name, and the first wrong argument is told.

        rows: for each argument of the function its name, a right value, and wrong ones, or
        None where every value is right.
        """
        right = [good for _, good, _ in rows]
        function(*right)
        for at, (name, _, wrong) in enumerate(rows):
            for value in wrong or ():
                arguments = list(right)
                arguments[at] = value
                self.assert_bad(name, function, *arguments)
        self.assert_first_told(function, rows)

    def assert_first_told(self, function, rows):
        checked = [at for at, row in enumerate(rows) if row[2]]
        for many in range(2, len(checked) + 1):
            for chosen in itertools.combinations(checked, many):
                for pick in (0, -1):
                    arguments = [good for _, good, _ in rows]
                    for at in chosen:
                        arguments[at] = rows[at][2][pick]
                    self.assert_bad(rows[chosen[0]][0], function, *arguments)
        # What is judged is wrong as well, and comes behind all that is checked.
        for at in checked:
            arguments = [good if wrong else None for _, good, wrong in rows]
            arguments[at] = rows[at][2][0]
            self.assert_bad(rows[at][0], function, *arguments)


def plain_divisors(method, many):
    """The divisors as point 5 tells them, one after another."""
    firsts, step = method
    row = list(firsts)
    while len(row) < many:
        row.append(row[-1] + step)
    return tuple(row[:many])


def small_methods(greatest, most_firsts):
    """All methods with firsts and steps up to the greatest, with at most so many firsts."""
    return [
        (firsts, step)
        for many in range(1, most_firsts + 1)
        for firsts in itertools.combinations_with_replacement(range(1, greatest + 1), many)
        for step in range(1, greatest + 1)
    ]
