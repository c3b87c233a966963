"""Changes (order, turns, answer): switches are exchanged and turned, and the answers are exchanged or not."""

from leastterms.checks import is_whole, is_whole_within, need_switches
from leastterms.errors import NoChange
from leastterms.functions import need_function, switches_of
from leastterms.products import opposite
from leastterms.terms import exchanged, need_term


def is_order(n, thing):
    """Whether the thing is a tuple in which each of the n switches stands once."""
    if not isinstance(thing, tuple) or not all([is_whole(switch) for switch in thing]):
        return False
    return sorted(thing) == list(range(n))


def is_turns(n, thing):
    """Whether the thing is a tuple with 0 or 1 for each of the n switches."""
    if not isinstance(thing, tuple) or len(thing) != n:
        return False
    return all([is_whole_within(turn, 0, 1) for turn in thing])


def has_change_parts(n, thing):
    """Whether the thing is a change of n, n being a number of switches."""
    if not isinstance(thing, tuple) or len(thing) != 3:
        return False
    order, turns, answer = thing
    return is_order(n, order) and is_turns(n, turns) and is_whole_within(answer, 0, 1)


def is_change(n, thing):
    """Whether the thing is a change of n."""
    need_switches(n)
    return has_change_parts(n, thing)


def need_change(n, thing):
    """Refuse what is no change of n, n being a number of switches."""
    if not has_change_parts(n, thing):
        raise NoChange("a change is (order, turns, answer) of the n switches")


def old_points(n, change):
    """For each point in order the one whose answer the changed function has there."""
    order, turns, answer = change
    olds = [0]
    for switch, turn in zip(order, turns):
        # The bit of switch 0 is worth the most, that of the last one is worth 1.
        worth = 1 << (n - 1 - switch)
        olds = [old + worth * bit for old in olds for bit in (turn, 1 - turn)]
    return olds


def changed(function, change):
    """The function changed by the change."""
    need_function(function)
    n = switches_of(function)
    need_change(n, change)
    told = tuple([function[old] for old in old_points(n, change)])
    return opposite(told) if change[2] == 1 else told


def turned(sign, turn):
    """The sign of a term, 0 and 1 exchanged where turn is 1."""
    return exchanged(sign) if turn == 1 and sign != "-" else sign


def changed_term(n, term, change):
    """The term of n changed by the change."""
    need_switches(n)
    need_term(n, term)
    need_change(n, change)
    order, turns, answer = change
    return "".join([turned(term[switch], turn) for switch, turn in zip(order, turns)])


def behind(n, one, other):
    """The one change that does the one and then, behind it, the other."""
    need_switches(n)
    need_change(n, one)
    need_change(n, other)
    order = tuple([one[0][switch] for switch in other[0]])
    turns = tuple([turn ^ one[1][switch] for switch, turn in zip(other[0], other[1])])
    return (order, turns, one[2] ^ other[2])


def back(n, change):
    """The change that leads back from the change."""
    need_switches(n)
    need_change(n, change)
    order, turns, answer = change
    places = tuple([order.index(switch) for switch in range(n)])
    return (places, tuple([turns[place] for place in places]), answer)
