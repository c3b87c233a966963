"""Papers, which show that no shared form of several functions has so many terms or fewer."""

from leastterms.checks import need_whole_within
from leastterms.papers import paper_of, shows
from leastterms.shared import held_things, least_shared, need_together, things_of

MOST_SHARED_TERMS = 24


def shared_shows(functions, many, thing):
    """Whether the thing is a paper that no shared form has so many terms or fewer."""
    need_together(functions)
    need_whole_within(many, 0, MOST_SHARED_TERMS)
    return shows(held_things(functions), things_of(functions), many, thing)


def shared_paper(functions, many):
    """Some paper that no shared form has so many terms or fewer, None where one has."""
    need_together(functions)
    need_whole_within(many, 0, MOST_SHARED_TERMS)
    if len(least_shared(functions)) <= many:
        return None
    return paper_of(held_things(functions), things_of(functions), many)
