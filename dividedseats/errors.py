"""The errors that the program raises."""


class SeatError(ValueError):
    """The base class of all errors of the program."""


class BadValue(SeatError):
    """An argument has a wrong form."""

    def __init__(self, name):
        self.name = name


class TooLarge(SeatError):
    """Something is greater than its bound."""

    def __init__(self, what):
        self.what = what


class NotPossible(SeatError):
    """What is asked for cannot be done."""

    def __init__(self, why):
        self.why = why


class TextError(SeatError):
    """A text has a problem at a column."""

    def __init__(self, column, words):
        self.column = column
        self.words = words
