"""Products: tuples of clauses, each told as a term and answering 0 at the points that this term holds."""

from leastterms.checks import need_switches
from leastterms.errors import NoTerm
from leastterms.forms import is_form, least_form, signs_of
from leastterms.functions import POINTS_BY_SWITCHES, need_function
from leastterms.terms import exchanged, has_rising_terms, lies_in, meet, terms_holding, with_sign


def opposite_answer(answer):
    """The other one of 0 and 1; free stays free."""
    return None if answer is None else 1 - answer


def opposite(function):
    """The function with 0 and 1 exchanged."""
    need_function(function)
    return tuple([opposite_answer(answer) for answer in function])


def is_product(function, thing):
    """Whether the thing is a product of the function."""
    return is_form(opposite(function), thing)


def least_product(function):
    """The first one of the products of the fewest clauses, of these the fewest signs."""
    return least_form(opposite(function))


def length_of(form):
    """What is compared first of forms and products: how many terms, then how many signs."""
    return (len(form), signs_of(form))


def shorter_side(function):
    """The tuple of "sums" and the least form, or of "products" and the least product where this is shorter."""
    by_sums = least_form(function)
    by_products = least_product(function)
    if length_of(by_products) < length_of(by_sums):
        return ("products", by_products)
    return ("sums", by_sums)


def need_rising_terms(n, thing):
    """Refuse what is no number of switches, then what is no rising tuple of its terms."""
    need_switches(n)
    if not has_rising_terms(n, thing):
        raise NoTerm("only a rising tuple of unlike terms of the n switches is let here")


def function_of_sum(n, terms):
    """The function with 1 at the points that one of the terms holds, with 0 else."""
    need_rising_terms(n, terms)
    return tuple([1 if terms_holding(terms, point) else 0 for point in range(POINTS_BY_SWITCHES[n])])


def function_of_product(n, terms):
    """The function with 0 at the points that one of the terms holds, with 1 else."""
    return opposite(function_of_sum(n, terms))


def picks_of(clause):
    """The terms of one sign of the clause each, exchanged."""
    blank = "-" * len(clause)
    return [with_sign(blank, switch, exchanged(sign)) for switch, sign in enumerate(clause) if sign != "-"]


def widest_of(terms):
    """The terms that lie in no other one of them."""
    return [term for term in terms if not any([term != other and lies_in(term, other) for other in terms])]


def multiplied(n, terms):
    """The rising list of the widest terms that come of one sign of each clause, exchanged."""
    need_rising_terms(n, terms)
    wide = ["-" * n]
    for clause in terms:
        met = [meet(term, pick) for term in wide for pick in picks_of(clause)]
        # What lies in another one now does so to the end, so it is left out at once.
        wide = widest_of(sorted({term for term in met if term is not None}))
    return wide
