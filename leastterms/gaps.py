"""Gaps: turns of one switch between two points with 1 that no term of a form keeps."""

from leastterms.errors import NoForm
from leastterms.forms import is_form, least_covers
from leastterms.functions import need_function, points_with
from leastterms.greatest import greatest
from leastterms.terms import points_of

# What one switch is worth in the number of a point.
WORTHS = (1, 2, 4, 8)


def need_form(function, thing):
    """Refuse what is no function, then what is no form of it."""
    if not is_form(function, thing):
        raise NoForm("a form is a rising tuple of good terms that together hold each point with 1")


def steps(function):
    """The rising list of the tuples of two points with 1 whose bits are unlike at just one switch."""
    need_function(function)
    points = points_with(function, 1)
    return [(point, other) for point in points for other in points if point < other and point ^ other in WORTHS]


def kept_by(term, pairs):
    """Those of the pairs of points both of which the term holds."""
    points = points_of(term)
    return [(point, other) for point, other in pairs if point in points and other in points]


def open_steps(function, form):
    """The rising list of the steps that no term of a form keeps."""
    wanted = steps(function)
    kept = [step for term in form for step in kept_by(term, wanted)]
    return [step for step in wanted if step not in kept]


def gaps(function, form):
    """The rising list of the gaps of the form."""
    need_form(function, form)
    return open_steps(function, form)


def is_smooth(function, thing):
    """Whether the thing is a form of the function without gaps."""
    return is_form(function, thing) and open_steps(function, thing) == []


def least_keepers(function, pairs):
    """A rising tuple of the fewest greatest terms, of these the fewest signs, that keep all the pairs."""
    # A good term that keeps some lies in a greatest one that keeps them too, with fewer signs.
    held = {term: kept_by(term, pairs) for term in greatest(function)}
    return least_covers(held, pairs)[0]


def least_smooth(function):
    """A smooth form of the fewest terms, of these the fewest signs."""
    need_function(function)
    # A point is held where the pair of it and itself is kept.
    own_pairs = [(point, point) for point in points_with(function, 1)]
    return least_keepers(function, own_pairs + steps(function))


def mended(function, form):
    """A rising tuple of the fewest good terms, of these the fewest signs, with which the form is smooth."""
    need_form(function, form)
    # What keeps a gap is not in the form.
    return least_keepers(function, open_steps(function, form))
