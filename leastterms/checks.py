"""Whole numbers, and the refusal of what is none that is let somewhere."""

from leastterms.errors import NoNumber

MOST_SWITCHES = 4


def is_whole(thing):
    """Whether the thing is an int that is no truth."""
    return isinstance(thing, int) and not isinstance(thing, bool)


def is_whole_within(thing, least, most):
    """Whether the thing is a whole number from least to most."""
    return is_whole(thing) and least <= thing <= most


def need_switches(n):
    """Refuse what is no number of switches."""
    if not is_whole_within(n, 1, MOST_SWITCHES):
        raise NoNumber("a number of switches is a whole number from 1 to 4")
