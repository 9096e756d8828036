"""Archives: results, a method that can be adopted for them, and a journal of what was done."""

from dividedseats.checks import check
from dividedseats.commands import FIRST_STATE, MOST_COMMANDS, is_command, seats_put_in, state_behind
from dividedseats.errors import TooLarge
from dividedseats.fitting import some_fit, told_evidence
from dividedseats.prediction import certain_seats, check_asked, possible_seats


class Archive:
    """Results that are put in and taken out by commands, and perhaps an adopted method."""

    def __init__(self):
        self._commands = []
        # The state at the beginning, and the one behind each command.
        self._states = [FIRST_STATE]

    def act(self, command):
        """Carry out the command. Return the number of commands in the journal."""
        check(is_command(command), "command")
        state = state_behind(self._states[-1], command)
        if len(self._commands) == MOST_COMMANDS:
            raise TooLarge("commands")
        self._commands.append(command)
        self._states.append(state)
        return len(self._commands)

    def undo(self):
        """Undo the last command. Return it, or None if the journal is empty."""
        if not self._commands:
            return None
        self._states.pop()
        return self._commands.pop()

    def results(self):
        """Return the tuple of the results."""
        return self._states[-1][0]

    def method(self):
        """Return the adopted method, or None."""
        return self._states[-1][1]

    def journal(self):
        """Return the tuple of the commands in the journal."""
        return tuple(self._commands)

    def can_fit(self):
        """Tell whether some divisors fit the results."""
        return some_fit(self.results())

    def possible(self, votes, house):
        """Return the list of the possible seats behind the results."""
        check_asked(self.results(), votes, house)
        return possible_seats(self.results(), votes, house)

    def certain(self, votes, house):
        """Return the certain seats behind the results, or None if none are."""
        check_asked(self.results(), votes, house)
        return certain_seats(self.results(), votes, house)

    def records(self):
        """Return the tuple of the records of the journal."""
        told = []
        for command, (results, _) in zip(self._commands, self._states[1:]):
            told.append((command, seats_put_in(command, results), told_evidence(results)))
        return tuple(told)

    def twin(self):
        """Return an archive with the same journal."""
        other = Archive()
        other._commands = list(self._commands)
        other._states = list(self._states)
        return other
