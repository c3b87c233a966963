"""Functions: a tuple with an answer, 0, 1 or None, for each point in order."""

from leastterms.checks import is_whole_within, need_switches
from leastterms.errors import NoFunction, NoPoint

POINTS_BY_SWITCHES = {1: 2, 2: 4, 3: 8, 4: 16}
SWITCHES_BY_POINTS = {2: 1, 4: 2, 8: 3, 16: 4}


def is_answer(thing):
    """Whether the thing is 0, 1 or None."""
    return thing is None or is_whole_within(thing, 0, 1)


def is_function(thing):
    """Whether the thing is a function of one to four switches."""
    if not isinstance(thing, tuple) or len(thing) not in SWITCHES_BY_POINTS:
        return False
    return all([is_answer(answer) for answer in thing])


def need_function(thing):
    """Refuse what is no function."""
    if not is_function(thing):
        raise NoFunction("a function is a tuple of 2, 4, 8 or 16 answers, each 0, 1 or None")


def switches_of(function):
    """The number of switches of a function."""
    return SWITCHES_BY_POINTS[len(function)]


def is_point_list(n, thing):
    """Whether the thing is a list of points of n, no two of them alike."""
    if not isinstance(thing, list):
        return False
    last = POINTS_BY_SWITCHES[n] - 1
    # Only whole numbers are sure to be let in a set, so they are looked at first.
    if not all([is_whole_within(point, 0, last) for point in thing]):
        return False
    return len(set(thing)) == len(thing)


def need_point_list(n, thing):
    """Refuse what is no list of unlike points of n."""
    if not is_point_list(n, thing):
        raise NoPoint("a list of points has unlike whole numbers, each a point of the n switches")


def answer_at(point, ones, frees):
    """The answer at a point, of the points with 1 and the free ones."""
    if point in ones:
        return 1
    if point in frees:
        return None
    return 0


def function_of(n, ones, frees):
    """The function of n with 1 at the ones, free at the frees, with 0 else."""
    need_switches(n)
    need_point_list(n, ones)
    need_point_list(n, frees)
    if any([point in ones for point in frees]):
        raise NoPoint("a point has 1 or is free, not both")
    return tuple([answer_at(point, ones, frees) for point in range(POINTS_BY_SWITCHES[n])])


def points_with(function, answer):
    """The rising list of the points with this answer."""
    return [point for point, told in enumerate(function) if told == answer]


def ones_of(function):
    """The rising list of the points with 1."""
    need_function(function)
    return points_with(function, 1)


def noughts_of(function):
    """The rising list of the points with 0."""
    need_function(function)
    return points_with(function, 0)


def frees_of(function):
    """The rising list of the free points."""
    need_function(function)
    return points_with(function, None)


def plain_functions(n):
    """The rising list of all functions of n that are free nowhere."""
    functions = [()]
    for point in range(POINTS_BY_SWITCHES[n]):
        functions = [function + (answer,) for function in functions for answer in (0, 1)]
    return functions
