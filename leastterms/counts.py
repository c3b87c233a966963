"""All functions of a few switches that are free nowhere: how many want how many terms."""

from leastterms.checks import need_switches, need_whole_within
from leastterms.forms import least_form
from leastterms.functions import plain_functions
from leastterms.greatest import greatest

MOST_SWITCHES_COUNTED = 3


def greatest_many(function):
    """How many greatest terms a function has."""
    return len(greatest(function))


def least_length(function):
    """How many terms the least form of a function has."""
    return len(least_form(function))


def counted_functions(n):
    """The rising list of all functions of n that are free nowhere, n being few enough."""
    need_whole_within(n, 1, MOST_SWITCHES_COUNTED)
    return plain_functions(n)


def counts_of(numbers):
    """At place k how many of the numbers are k, up to the greatest one."""
    return [numbers.count(k) for k in range(max(numbers) + 1)]


def by_greatest(n):
    """At place k how many functions have just k greatest terms."""
    return counts_of([greatest_many(function) for function in counted_functions(n)])


def by_least(n):
    """At place k how many functions have a least form of just k terms."""
    return counts_of([least_length(function) for function in counted_functions(n)])


def most_greatest(n):
    """The first function with the most greatest terms."""
    return max(counted_functions(n), key=greatest_many)


def most_least(n):
    """The first function whose least form has the most terms."""
    return max(counted_functions(n), key=least_length)


def odd_function(n):
    """The function with 1 at the points with an odd number of bits 1, with 0 else."""
    need_switches(n)
    answers = [0]
    for switch in range(n):
        # One bit 1 more makes odd what was even.
        answers = answers + [1 - answer for answer in answers]
    return tuple(answers)
