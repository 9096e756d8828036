"""Archives and their records in another way than the program: a journal is carried out anew."""

import oracle
from support import all_shares, has_key, plain_divisors, small_method, some_seats

KINDS = ("add", "remove", "adopt", "abandon", "apportion")


def is_integer(value, low, high):
    return type(value) is int and low <= value <= high


def is_tuple(value, low, high):
    return type(value) is tuple and all(is_integer(item, low, high) for item in value)


def is_votes(value):
    return is_tuple(value, 1, 10**6) and len(value) <= 5


def is_seats(value, votes):
    return is_tuple(value, 0, 8) and len(value) == len(votes) and sum(value) <= 8


def is_result(value):
    if type(value) is not tuple or len(value) != 2:
        return False
    return is_votes(value[0]) and is_seats(value[1], value[0])


def is_method(value):
    if type(value) is not tuple or len(value) != 2 or not is_tuple(value[0], 1, 1000):
        return False
    firsts, step = value
    return 1 <= len(firsts) <= 6 and sorted(firsts) == list(firsts) and is_integer(step, 1, 1000)


def is_command(value):
    if type(value) is not tuple or not value or value[0] not in KINDS:
        return False
    rights = {
        "add": (is_result,),
        "remove": (lambda number: is_integer(number, 0, 5),),
        "adopt": (is_method,),
        "abandon": (),
        "apportion": (is_votes, lambda house: is_integer(house, 0, 8)),
    }[value[0]]
    return len(value) == 1 + len(rights) and all(
        right(item) for right, item in zip(rights, value[1:])
    )


def problem(results, method, command):
    """The word of point 118, of several the first one, or None."""
    word, *about = command
    if word == "add":
        if len(results) == 6:
            return "many"
        return "method" if method and not has_key(method, *about[0]) else None
    if word == "remove":
        return "missing" if about[0] >= len(results) else None
    if word == "adopt":
        return None if all(has_key(about[0], *result) for result in results) else "method"
    if method is None:
        return "none"
    if word == "apportion" and len(results) == 6:
        return "many"
    return "parties" if word == "apportion" and about[1] and not about[0] else None


def behind(results, method, command):
    """The results and the method behind a command that is possible."""
    word, *about = command
    if word == "add":
        return results + (about[0],), method
    if word == "remove":
        left = list(results)
        del left[about[0]]
        return tuple(left), method
    if word == "adopt":
        return results, about[0]
    if word == "abandon":
        return results, None
    votes, house = about
    return results + ((votes, all_shares(method, votes, house)[0]),), method


def states(journal):
    """The results and the method at the beginning and behind each command."""
    found = [((), None)]
    for command in journal:
        found.append(behind(*found[-1], command))
    return found


def is_right(records):
    """Point 122."""
    if type(records) is not tuple or len(records) > 20:
        return False
    results, method = (), None
    for item in records:
        if type(item) is not tuple or len(item) != 3 or not is_command(item[0]):
            return False
        command, seats, value = item
        if problem(results, method, command) is not None:
            return False
        results, method = behind(results, method, command)
        put_in = results[-1][1] if command[0] == "apportion" else None
        if repr(seats) != repr(put_in) or not is_evidence(results, value):
            return False
    return True


def is_evidence(results, value):
    if type(value) is not tuple or value[:1] not in (("divisors",), ("round",)):
        return False
    return oracle.is_evidence(results, value, "divisors")


def some_command(chance, results, method, parties=3, house=5, votes=9):
    """A command that is often possible."""
    word = chance.choice(KINDS + ("add", "apportion"))
    many = tuple(chance.randint(1, votes) for _ in range(chance.randint(0, parties)))
    if word == "add":
        row = plain_divisors(method or small_method(chance), 9)
        seats = oracle.given(chance, row, many, chance.randint(0, house))
        if chance.random() < 0.3:
            seats = some_seats(chance, len(many), house)
        return "add", (many, seats)
    if word == "remove":
        return "remove", chance.randrange(6 if chance.random() < 0.2 else max(len(results), 1))
    if word == "adopt":
        return "adopt", chance.choice([small_method(chance), ((1,), 1), ((1,), 2), ((1, 1), 1)])
    return ("abandon",) if word == "abandon" else ("apportion", many, chance.randint(0, house))


def some_journal(chance, most=20, **bounds):
    """A journal of commands that are possible, one after another."""
    journal, state = (), ((), None)
    for _ in range(chance.randint(0, most)):
        command = some_command(chance, *state, **bounds)
        if problem(*state, command) is None:
            journal += (command,)
            state = behind(*state, command)
    return journal
