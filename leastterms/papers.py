"""Papers, which show that no form has so many terms or fewer.

A paper is looked at with a dict that has for each term, in order, what it holds; with the things to be held that no
taken term holds; and with how many terms are spare: so many less those that are taken. Of one function the terms are
the greatest ones, and the things are points.
"""

from leastterms.checks import is_rising, is_whole, need_whole_within
from leastterms.forms import held_points, holders_in, least_form
from leastterms.functions import need_function, points_with

MOST_TERMS = 16


def is_one_of(things, told):
    """Whether what is told is among the things, which are whole numbers or tuples of these."""
    parts = told if isinstance(told, tuple) else (told,)
    # True is like 1, also within a tuple, so what is no whole number is left out first.
    return all([is_whole(part) for part in parts]) and told in things


def unheld(held, things, term):
    """The things that the term does not hold."""
    return [thing for thing in things if thing not in held[term]]


def are_apart(held, things):
    """Whether none of the terms holds two of the things."""
    # Each term that holds some lies in one of these that holds them too, so these are enough.
    return all([len(things) - len(unheld(held, things, term)) < 2 for term in held])


def shows_apart(held, things, spare, told):
    """Whether what is told are things apart from one another, more than are spare."""
    if not isinstance(told, tuple) or not all([is_one_of(things, thing) for thing in told]):
        return False
    return is_rising(told) and len(told) > spare and are_apart(held, told)


def shows_cases(held, things, spare, thing, papers):
    """Whether there is a paper for each term that holds the thing, in order."""
    if not is_one_of(things, thing) or not isinstance(papers, tuple):
        return False
    holders = holders_in(held, thing)
    if len(papers) != len(holders):
        return False
    for term, paper in zip(holders, papers):
        if not shows(held, unheld(held, things, term), spare - 1, paper):
            return False
    return True


def shows(held, things, spare, paper):
    """Whether what is handed in is a paper, looked at with what is open and spare."""
    if not isinstance(paper, tuple):
        return False
    if len(paper) == 2 and paper[0] == "apart":
        return shows_apart(held, things, spare, paper[1])
    if len(paper) == 3 and paper[0] == "cases":
        return shows_cases(held, things, spare, paper[1], paper[2])
    return False


def paper_shows(function, many, thing):
    """Whether the thing is a paper that no form has so many terms or fewer."""
    need_function(function)
    need_whole_within(many, 0, MOST_TERMS)
    return shows(held_points(function), points_with(function, 1), many, thing)


def apart_things(held, things, wanted):
    """A rising tuple of as many of the things as wanted, no two held by one term; None where there is none."""
    if wanted == 0:
        return ()
    if len(things) < wanted:
        return None
    first, *rest = things
    far = [thing for thing in rest if are_apart(held, [first, thing])]
    behind = apart_things(held, far, wanted - 1)
    if behind is not None:
        return (first,) + behind
    return apart_things(held, rest, wanted)


def paper_of(held, things, spare):
    """A paper, where the spare terms are too few to hold the things."""
    apart = apart_things(held, things, spare + 1)
    if apart is not None:
        return ("apart", apart)
    # The fewer terms hold the thing, the fewer cases there are.
    hardest = min(things, key=lambda thing: len(holders_in(held, thing)))
    papers = [paper_of(held, unheld(held, things, term), spare - 1) for term in holders_in(held, hardest)]
    return ("cases", hardest, tuple(papers))


def paper_for(function, many):
    """Some paper that no form has so many terms or fewer, None where one has."""
    need_function(function)
    need_whole_within(many, 0, MOST_TERMS)
    if len(least_form(function)) <= many:
        return None
    return paper_of(held_points(function), points_with(function, 1), many)
