"""Functions that are alike: some change leads the one to the other."""

from leastterms.changes import changed
from leastterms.checks import need_whole_within
from leastterms.errors import NoFunction
from leastterms.functions import need_function, plain_functions, switches_of
from leastterms.texts import function_text

MOST_SWITCHES_OF_KINDS = 3


def all_orders(n):
    """The rising list of all tuples in which each of the n switches stands once."""
    orders = [()]
    for place in range(n):
        orders = [order + (switch,) for order in orders for switch in range(n) if switch not in order]
    return orders


def all_turns(n):
    """The rising list of all tuples with 0 or 1 for each of the n switches."""
    found = [()]
    for switch in range(n):
        found = [turns + (turn,) for turns in found for turn in (0, 1)]
    return found


def all_changes(n):
    """The rising list of all changes of n."""
    return [(order, turns, answer) for order in all_orders(n) for turns in all_turns(n) for answer in (0, 1)]


def change_to(one, other):
    """The first change that leads the one function to the other, None where there is none."""
    need_function(one)
    need_function(other)
    if len(one) != len(other):
        raise NoFunction("only functions of one n are alike or not")
    for change in all_changes(switches_of(one)):
        if changed(one, change) == other:
            return change
    return None


def own_changes(function):
    """The rising list of all changes that lead the function to itself."""
    need_function(function)
    return [change for change in all_changes(switches_of(function)) if changed(function, change) == function]


def alike_functions(function):
    """All functions that are alike with a function, each once."""
    return list({changed(function, change): True for change in all_changes(switches_of(function))})


def least_alike(function):
    """The function that is alike with this one and whose text is first."""
    need_function(function)
    return min(alike_functions(function), key=function_text)


def kind_sizes(n):
    """For each least function of those free nowhere, by their texts, how many are alike with it."""
    need_whole_within(n, 1, MOST_SWITCHES_OF_KINDS)
    sizes = {}
    seen = {}
    for function in plain_functions(n):
        # Free nowhere, the functions rise as their texts do, so the first one of a kind is its least.
        if function not in seen:
            alike = alike_functions(function)
            sizes[function] = len(alike)
            seen.update({other: True for other in alike})
    return sizes


def kinds(n):
    """The least functions of all functions of n that are free nowhere, by their texts."""
    return list(kind_sizes(n))


def kinds_many(n):
    """For each of the kinds how many functions are alike with its least one."""
    return list(kind_sizes(n).values())
