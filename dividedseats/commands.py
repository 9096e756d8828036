"""Commands, and what they make of the state of an archive.

A state is a pair (results, method), with None as the method if none is adopted.
"""

from dividedseats.checks import is_between
from dividedseats.errors import NotPossible
from dividedseats.fitting import MOST_RESULTS, is_result
from dividedseats.methods import is_method
from dividedseats.shares import MOST_SEATS, is_valid, is_votes, valid_seats

MOST_COMMANDS = 20
FIRST_STATE = ((), None)


def is_command(value):
    """Tell whether the value is a command."""
    if not isinstance(value, tuple) or len(value) == 0:
        return False
    word = value[0]
    if word == "abandon":
        return len(value) == 1
    if word == "apportion":
        return len(value) == 3 and is_votes(value[1]) and is_between(value[2], 0, MOST_SEATS)
    return len(value) == 2 and is_command_about(word, value[1])


def is_command_about(word, value):
    """Tell whether the word and what it is about are a command."""
    if word == "add":
        return is_result(value)
    if word == "remove":
        return is_between(value, 0, MOST_RESULTS - 1)
    return word == "adopt" and is_method(value)


def state_behind(state, command):
    """Return the state behind the command. Raise NotPossible if it is not possible."""
    results, method = state
    word = command[0]
    if word == "add":
        return (with_added(results, method, command[1]), method)
    if word == "remove":
        return (without(results, command[1]), method)
    if word == "adopt":
        return (results, adopted(results, command[1]))
    if word == "abandon":
        refuse(method is None, "none")
        return (results, None)
    return (with_apportioned(results, method, command[1], command[2]), method)


def seats_put_in(command, results):
    """Return the seats that the command, with the results behind it, has put in, or None."""
    return results[-1][1] if command[0] == "apportion" else None


def refuse(wrong, why):
    """Raise NotPossible if it is wrong."""
    if wrong:
        raise NotPossible(why)


def with_added(results, method, result):
    """Return the results with one more."""
    refuse(len(results) == MOST_RESULTS, "many")
    votes, seats = result
    refuse(method is not None and not is_valid(method, votes, seats), "method")
    return results + (result,)


def without(results, number):
    """Return the results without the one that has the number."""
    refuse(number >= len(results), "missing")
    return results[:number] + results[number + 1:]


def adopted(results, method):
    """Return the method, which produces all results."""
    refuse(not all(is_valid(method, votes, seats) for votes, seats in results), "method")
    return method


def with_apportioned(results, method, votes, house):
    """Return the results with the first valid seats for the votes."""
    refuse(method is None, "none")
    refuse(len(results) == MOST_RESULTS, "many")
    refuse(house > 0 and len(votes) == 0, "parties")
    return results + ((votes, valid_seats(method, votes, house)[0]),)
