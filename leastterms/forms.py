"""Forms: rising tuples of good terms that together hold each point with 1; and the least of them."""

from leastterms.functions import need_function, points_with, switches_of
from leastterms.greatest import greatest, holds_no_nought
from leastterms.terms import has_rising_terms, points_of, signs_in, terms_holding


def is_form(function, thing):
    """Whether the thing is a form of the function."""
    need_function(function)
    if not has_rising_terms(switches_of(function), thing):
        return False
    if not all([holds_no_nought(function, term) for term in thing]):
        return False
    return all([terms_holding(thing, point) != [] for point in points_with(function, 1)])


def signs_of(form):
    """How many signs 0 and 1 the terms of a form have together."""
    return sum([signs_in(term) for term in form])


def holders_in(held, one):
    """The terms that hold the one, of a dict that has for each term what it holds."""
    return [term for term in held if one in held[term]]


def covers(held, wanted, many):
    """Tuples of at most so many of the terms that hold all that is wanted; each of the fewest terms just once."""
    if not wanted:
        return [()]
    if many == 0:
        return []
    hardest = min(wanted, key=lambda one: len(holders_in(held, one)))
    found = []
    rest = dict(held)
    for term in holders_in(held, hardest):
        # What has this term is found here, so the terms behind it do without it.
        del rest[term]
        left = [one for one in wanted if one not in held[term]]
        found.extend([(term,) + cover for cover in covers(rest, left, many - 1)])
    return found


def least_covers(held, wanted):
    """The rising list of all rising tuples of the fewest terms, of these the fewest signs, that hold all wanted."""
    many = 0
    found = covers(held, wanted, many)
    while not found:
        many += 1
        found = covers(held, wanted, many)
    fewest = min([signs_of(cover) for cover in found])
    return sorted([tuple(sorted(cover)) for cover in found if signs_of(cover) == fewest])


def held_points(function):
    """For each greatest term, in order, the points that it holds."""
    return {term: points_of(term) for term in greatest(function)}


def least_forms(function):
    """The rising list of all forms of the fewest terms, of these the fewest signs."""
    # A term that is not greatest is out or wider in a shorter form, so greatest ones are enough.
    return least_covers(held_points(function), points_with(function, 1))


def least_form(function):
    """The first one of the forms of the fewest terms, of these the fewest signs."""
    return least_forms(function)[0]


def least_many(function):
    """How many forms have as few terms and as few signs as the least one."""
    return len(least_forms(function))
