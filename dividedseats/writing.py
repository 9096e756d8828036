"""Writing the texts of methods and of results."""

from dividedseats.checks import check
from dividedseats.fitting import check_results
from dividedseats.methods import is_method


def method_text(method):
    """Return the text of the method."""
    check(is_method(method), "method")
    firsts, step = method
    return spaced(firsts) + " +" + str(step)


def results_text(results):
    """Return the text of the results."""
    check_results(results)
    return "; ".join([result_text(votes, seats) for votes, seats in results])


def result_text(votes, seats):
    """Return the text of one result."""
    return spaced(votes) + ":" + "".join([" " + str(own) for own in seats])


def spaced(numbers):
    """Return the numbers with one space between them."""
    return " ".join([str(number) for number in numbers])
