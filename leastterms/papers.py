"""Papers, which show that no form has so many terms or fewer.

A paper is looked at with the greatest terms, the points with 1 that no taken term holds, and how many terms are
spare: so many less those that are taken.
"""

from leastterms.checks import is_rising, is_whole, need_whole_within
from leastterms.forms import least_form
from leastterms.functions import need_function, points_with
from leastterms.greatest import greatest
from leastterms.terms import points_of, terms_holding

MOST_TERMS = 16


def is_one_of(points, thing):
    """Whether the thing is a whole number among the points."""
    return is_whole(thing) and thing in points


def unheld(points, term):
    """The points that the term does not hold."""
    held = points_of(term)
    return [point for point in points if point not in held]


def are_apart(terms, points):
    """Whether none of the terms holds two of the points."""
    # A good term that holds a 1 lies in a greatest one, so greatest ones are enough.
    return all([len(points) - len(unheld(points, term)) < 2 for term in terms])


def shows_apart(terms, points, spare, told):
    """Whether what is told are points apart from one another, more than are spare."""
    if not isinstance(told, tuple) or not all([is_one_of(points, point) for point in told]):
        return False
    return is_rising(told) and len(told) > spare and are_apart(terms, told)


def shows_cases(terms, points, spare, point, papers):
    """Whether there is a paper for each term that holds the point, in order."""
    if not is_one_of(points, point) or not isinstance(papers, tuple):
        return False
    holders = terms_holding(terms, point)
    if len(papers) != len(holders):
        return False
    for term, paper in zip(holders, papers):
        if not shows(terms, unheld(points, term), spare - 1, paper):
            return False
    return True


def shows(terms, points, spare, paper):
    """Whether the thing is a paper, looked at with what is open and spare."""
    if not isinstance(paper, tuple):
        return False
    if len(paper) == 2 and paper[0] == "apart":
        return shows_apart(terms, points, spare, paper[1])
    if len(paper) == 3 and paper[0] == "cases":
        return shows_cases(terms, points, spare, paper[1], paper[2])
    return False


def paper_shows(function, many, thing):
    """Whether the thing is a paper that no form has so many terms or fewer."""
    need_function(function)
    need_whole_within(many, 0, MOST_TERMS)
    return shows(greatest(function), points_with(function, 1), many, thing)


def apart_points(terms, points, wanted):
    """A rising tuple of as many of the points as wanted, no two held by one of the terms; None where there is none."""
    if wanted == 0:
        return ()
    if len(points) < wanted:
        return None
    first, *rest = points
    far = [point for point in rest if are_apart(terms, [first, point])]
    behind = apart_points(terms, far, wanted - 1)
    if behind is not None:
        return (first,) + behind
    return apart_points(terms, rest, wanted)


def paper_of(terms, points, spare):
    """A paper, where the spare terms are too few to hold the points."""
    apart = apart_points(terms, points, spare + 1)
    if apart is not None:
        return ("apart", apart)
    # The fewer terms hold the point, the fewer cases there are.
    point = min(points, key=lambda one: len(terms_holding(terms, one)))
    holders = terms_holding(terms, point)
    papers = [paper_of(terms, unheld(points, term), spare - 1) for term in holders]
    return ("cases", point, tuple(papers))


def paper_for(function, many):
    """Some paper that no form has so many terms or fewer, None where one has."""
    need_function(function)
    need_whole_within(many, 0, MOST_TERMS)
    if len(least_form(function)) <= many:
        return None
    return paper_of(greatest(function), points_with(function, 1), many)
