"""Whole numbers, the refusal of what is none that is let somewhere, and what rises."""

from leastterms.errors import NoNumber

MOST_SWITCHES = 4


def is_whole(thing):
    """Whether the thing is an int that is no truth."""
    return isinstance(thing, int) and not isinstance(thing, bool)


def is_whole_within(thing, least, most):
    """Whether the thing is a whole number from least to most."""
    return is_whole(thing) and least <= thing <= most


def need_whole_within(thing, least, most):
    """Refuse what is no whole number from least to most."""
    if not is_whole_within(thing, least, most):
        raise NoNumber(f"only a whole number from {least} to {most} is let here")


def need_switches(n):
    """Refuse what is no number of switches."""
    need_whole_within(n, 1, MOST_SWITCHES)


def is_rising(things):
    """Whether each of the things, of one kind that compares, is less than the next one."""
    return all([one < other for one, other in zip(things, things[1:])])
