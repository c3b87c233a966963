"""Several functions together, whose forms share terms.

A thing to be held is a tuple (number, point) of one of the functions and a point at which it has 1.
"""

from leastterms.errors import NoFunction
from leastterms.forms import least_covers
from leastterms.functions import is_function, points_with, switches_of
from leastterms.greatest import holds_no_nought
from leastterms.terms import all_terms, has_rising_terms, points_of, with_sign

MOST_SWITCHES_TOGETHER = 3


def are_together(thing):
    """Whether the thing is a tuple of two or three functions of one n, from 1 to 3."""
    if not isinstance(thing, tuple) or len(thing) not in (2, 3):
        return False
    if not all([is_function(function) for function in thing]):
        return False
    n = switches_of(thing[0])
    return n <= MOST_SWITCHES_TOGETHER and all([switches_of(function) == n for function in thing])


def need_together(thing):
    """Refuse what is no functions together."""
    if not are_together(thing):
        raise NoFunction("functions together are a tuple of two or three functions of one to three switches, of one n")


def things_of(functions):
    """The rising list of all things to be held."""
    return [(number, point) for number, function in enumerate(functions) for point in points_with(function, 1)]


def numbers_good_for(functions, term):
    """The rising list of the numbers of the functions for which the term is good."""
    return [number for number, function in enumerate(functions) if holds_no_nought(function, term)]


def held_by(functions, term):
    """All tuples (number, point) of a function for which the term is good and a point that it holds."""
    return [(number, point) for number in numbers_good_for(functions, term) for point in points_of(term)]


def is_shared(functions, thing):
    """Whether the thing is a shared form of the functions."""
    need_together(functions)
    if not has_rising_terms(switches_of(functions[0]), thing):
        return False
    held = [held_by(functions, term) for term in thing]
    if [] in held:
        return False
    return all([any([wanted in some for some in held]) for wanted in things_of(functions)])


def is_broad(functions, term):
    """Whether the term is good for a function, and no wider one is good for all for which it is."""
    numbers = numbers_good_for(functions, term)
    # What lies in a good term is good, so a wider one that will do is reached by one sign at a time.
    wider = [with_sign(term, switch, "-") for switch, sign in enumerate(term) if sign != "-"]
    return numbers != [] and not any([numbers_good_for(functions, other) == numbers for other in wider])


def broad_terms(functions):
    """The rising list of all broad terms."""
    need_together(functions)
    return [term for term in all_terms(switches_of(functions[0])) if is_broad(functions, term)]


def held_things(functions):
    """For each broad term, in order, what it holds."""
    return {term: held_by(functions, term) for term in broad_terms(functions)}


def least_shared(functions):
    """A shared form of the fewest terms, of these the fewest signs."""
    return least_covers(held_things(functions), things_of(functions))[0]
