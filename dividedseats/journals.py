"""Journals of archives, and records of what their commands did."""

from dividedseats.archive import Archive
from dividedseats.checks import check
from dividedseats.commands import FIRST_STATE, MOST_COMMANDS, is_command, seats_put_in, state_behind
from dividedseats.errors import NotPossible
from dividedseats.fitting import is_evidence
from dividedseats.shares import is_seats


def replayed(journal):
    """Return the archive that the commands of the journal make, one after another."""
    check(is_journal(journal), "journal")
    archive = Archive()
    for command in journal:
        archive.act(command)
    return archive


def are_right(records):
    """Tell whether the records are right."""
    if not isinstance(records, tuple) or len(records) > MOST_COMMANDS:
        return False
    state = FIRST_STATE
    for item in records:
        if not is_told_command(item):
            return False
        try:
            state = state_behind(state, item[0])
        except NotPossible:
            return False
        if not tells_of(item, state[0]):
            return False
    return True


def is_journal(value):
    """Tell whether the value is a tuple of at most 20 commands."""
    if not isinstance(value, tuple) or len(value) > MOST_COMMANDS:
        return False
    return all(is_command(item) for item in value)


def is_told_command(value):
    """Tell whether the value is a tuple of three items, of which the first one is a command."""
    return isinstance(value, tuple) and len(value) == 3 and is_command(value[0])


def tells_of(item, results):
    """Tell whether a record has the seats of its command, and evidence about the results behind it."""
    command, seats, value = item
    expected = seats_put_in(command, results)
    if expected is None:
        good = seats is None
    else:
        good = is_seats(seats, command[1]) and seats == expected
    return good and is_evidence(results, value, "divisors")
