"""Terms: a text with a sign, 0, 1 or -, for each switch."""

from leastterms.checks import is_rising, need_switches
from leastterms.errors import NoTerm

# In the order of texts, so that what is built sign by sign rises.
SIGNS = "-01"


def has_term_signs(n, thing):
    """Whether the thing is a text of n signs of a term."""
    if not isinstance(thing, str) or len(thing) != n:
        return False
    return all([sign in SIGNS for sign in thing])


def is_term(n, thing):
    """Whether the thing is a term of n."""
    need_switches(n)
    return has_term_signs(n, thing)


def need_term(n, thing):
    """Refuse what is no term of n, n being a number of switches."""
    if not has_term_signs(n, thing):
        raise NoTerm("a term has a sign 0, 1 or - for each switch")


def has_rising_terms(n, thing):
    """Whether the thing is a rising tuple of unlike terms of n."""
    if not isinstance(thing, tuple):
        return False
    # Only texts are sure to compare, so they are looked at first.
    return all([has_term_signs(n, term) for term in thing]) and is_rising(thing)


def all_terms(n):
    """The rising list of all terms of n."""
    terms = [""]
    for switch in range(n):
        terms = [term + sign for term in terms for sign in SIGNS]
    return terms


def bits_of(sign):
    """The bits that a sign lets stand at its switch."""
    if sign == "-":
        return [0, 1]
    return [int(sign)]


def points_of(term):
    """The rising list of the points that a term holds."""
    points = [0]
    for sign in term:
        points = [2 * point + bit for point in points for bit in bits_of(sign)]
    return points


def lies_in(one, other):
    """Whether all points of the one term are the other's."""
    # Each term holds some point, so the signs alone decide.
    return all([wide == "-" or wide == sign for sign, wide in zip(one, other)])


def meet(one, other):
    """The term of just the points that both hold, None where there are none."""
    signs = []
    for left, right in zip(one, other):
        if left != "-" and right != "-" and left != right:
            return None
        signs.append(right if left == "-" else left)
    return "".join(signs)


def with_sign(term, switch, sign):
    """The term with this sign at the switch."""
    return term[:switch] + sign + term[switch + 1:]


def exchanged(sign):
    """The other one of 0 and 1."""
    return "1" if sign == "0" else "0"


def signs_in(term):
    """How many signs 0 and 1 a term has."""
    return len(term) - term.count("-")


def terms_holding(terms, point):
    """Those of the terms, in their order, that hold the point."""
    return [term for term in terms if point in points_of(term)]
