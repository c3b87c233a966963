"""Needed terms, and sweeps of the table of a function: its points with 1 and its greatest terms."""

from leastterms.functions import points_with
from leastterms.greatest import greatest
from leastterms.terms import points_of, signs_in, terms_holding


def sole_holders(points, terms):
    """The tuples (point, term) of the points that just one of the terms holds."""
    holders = [(point, terms_holding(terms, point)) for point in points]
    return [(point, held_by[0]) for point, held_by in holders if len(held_by) == 1]


def terms_alone(points, terms):
    """The rising list of the terms that alone of them hold some of the points."""
    return sorted({term for point, term in sole_holders(points, terms)})


def sole_points(function):
    """The tuples (point, term) of the points with 1 that just one greatest term holds."""
    terms = greatest(function)
    return sole_holders(points_with(function, 1), terms)


def needed(function):
    """The rising list of the greatest terms that alone hold some point with 1."""
    terms = greatest(function)
    return terms_alone(points_with(function, 1), terms)


def makes_point_go(other, point, holders):
    """Whether the point is held wherever the other one is; of two alike ones the greater goes."""
    if not all([term in holders[point] for term in holders[other]]):
        return False
    return holders[other] != holders[point] or other < point


def kept_points(points, terms):
    """The points that do not go because of some other one."""
    holders = {point: terms_holding(terms, point) for point in points}
    return [point for point in points if not any([makes_point_go(other, point, holders) for other in points])]


def makes_term_go(other, term, held):
    """Whether the other term holds as much with no more signs; of two alike ones the greater goes."""
    if signs_in(other) > signs_in(term) or not all([point in held[other] for point in held[term]]):
        return False
    return held[other] != held[term] or signs_in(other) < signs_in(term) or other < term


def kept_terms(points, terms):
    """The terms that hold some of the points and do not go because of some other one."""
    held = {term: [point for point in points_of(term) if point in points] for term in terms}
    useful = [term for term in terms if held[term]]
    return [term for term in useful if not any([makes_term_go(other, term, held) for other in useful])]


def sweep(points, terms):
    """What one sweep takes, and the points and the terms that it leaves there."""
    taken = terms_alone(points, terms)
    open_points = [point for point in points if not terms_holding(taken, point)]
    points_left = kept_points(open_points, terms)
    # A taken term holds none of the points that are left, so it is not kept.
    return taken, points_left, kept_terms(points_left, terms)


def swept(function):
    """The tuple (taken, points, terms) of sweeps until one changes nothing."""
    terms = greatest(function)
    points = points_with(function, 1)
    all_taken = []
    changes = True
    while changes:
        taken, points_left, terms_left = sweep(points, terms)
        changes = (points_left, terms_left) != (points, terms)
        all_taken.extend(taken)
        points, terms = points_left, terms_left
    return tuple(sorted(all_taken)), tuple(points), tuple(terms)
