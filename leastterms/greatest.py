"""Good terms, which hold no point with 0, and the greatest of them."""

from leastterms.errors import NoTerm
from leastterms.functions import need_function, switches_of
from leastterms.terms import all_terms, need_term, points_of, with_sign


def holds_no_nought(function, term):
    """Whether a term of the function's n is good."""
    return all([function[point] != 0 for point in points_of(term)])


def holds_a_one(function, term):
    """Whether a term of the function's n holds a point with 1."""
    return any([function[point] == 1 for point in points_of(term)])


def is_good(function, term):
    """Whether the term holds no point with 0."""
    need_function(function)
    need_term(switches_of(function), term)
    return holds_no_nought(function, term)


def good_terms(function):
    """The rising list of all good terms."""
    need_function(function)
    return [term for term in all_terms(switches_of(function)) if holds_no_nought(function, term)]


def can_widen_at(function, term, switch):
    """Whether the sign at the switch can become - in a good term."""
    return term[switch] != "-" and holds_no_nought(function, with_sign(term, switch, "-"))


def is_widest(function, term):
    """Whether a good term lies in no other good one."""
    # What lies in a good term is good, so a good term that is wider is reached by one sign at a time.
    return not any([can_widen_at(function, term, switch) for switch in range(len(term))])


def greatest(function):
    """The rising list of all greatest terms."""
    return [term for term in good_terms(function) if holds_a_one(function, term) and is_widest(function, term)]


def widened(function, term):
    """The good term with each sign made -, from the left, where it stays good."""
    if not is_good(function, term):
        raise NoTerm("only a term that holds no point with 0 is widened")
    wide = term
    for switch in range(len(term)):
        if can_widen_at(function, wide, switch):
            wide = with_sign(wide, switch, "-")
    return wide


def levels(function):
    """The good terms by how many signs - they have, each level a rising list."""
    good = good_terms(function)
    by_width = [[term for term in good if term.count("-") == width] for width in range(switches_of(function) + 1)]
    # A good term of some width has good ones of each lesser width in it, so only levels at the end are empty.
    return [level for level in by_width if level]
