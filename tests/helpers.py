"""What several test files use: odd things, many functions, and a slow second way to each answer."""

import itertools
import random


def deep(make, depth=20):
    thing = make(0)
    for _ in range(depth - 1):
        thing = make(thing)
    return thing


def things():
    """Things of all kinds, new ones each time; none is a number from 1 to 4, a function, a term or a list."""
    return [
        True, False, None, -1, 0, 5, 17, 10 ** 30 - 1, 1 - 10 ** 30,
        1.0, 2.5, float("nan"), float("inf"), 1j, b"1", b"", bytearray(b"-"),
        "", " ", "one", "01x", "-----", "0 1", "2", "\u0660", "\u2212", "0\n",
        (), (1,), (0, 1, 0), (0,) * 5, (0,) * 32, ("0", "1"), ([], []), (True, False), (0.0, 1.0),
        {}, {"a": 1}, {0: 0, 1: 1}, set(), {0, 1}, frozenset({0, 1}), range(2), object(), int, len,
        deep(lambda inner: (inner, inner)), deep(lambda inner: {"a": inner}), deep(lambda inner: (inner,)),
        (0, deep(lambda inner: [inner])), (deep(lambda inner: {"k": inner}),) * 4,
    ]


def odd_lists():
    """Lists that are no list of points, no function and no term."""
    return [
        [True], [0, False], [None], ["0"], [0.0], [-1], [0, 0], [1, 0, 1], [16], [[0]], [(0,)], [{}], [10 ** 30 - 1],
        [deep(lambda inner: [inner])],
    ]


def bits(n, point):
    return bin(point)[2:].zfill(n)


def holds(term, point):
    return all(sign in ("-", bit) for sign, bit in zip(term, bits(len(term), point)))


TERMS = {n: sorted("".join(signs) for signs in itertools.product("01-", repeat=n)) for n in range(1, 5)}
POINTS = {term: {p for p in range(2 ** n) if holds(term, p)} for n in TERMS for term in TERMS[n]}


def switches(function):
    return len(function).bit_length() - 1


def slow_good(function):
    noughts = {point for point, answer in enumerate(function) if answer == 0}
    return [term for term in TERMS[switches(function)] if not POINTS[term] & noughts]


def slow_greatest(function):
    good = slow_good(function)
    wanted = ones(function)
    return [
        term for term in good
        if POINTS[term] & wanted and not any(POINTS[term] < POINTS[other] for other in good)
    ]


def ones(function):
    return {point for point, answer in enumerate(function) if answer == 1}


def all_held(terms):
    return set().union(*[POINTS[term] for term in terms])


def choices(terms):
    """All rising tuples of the terms."""
    terms = sorted(terms)
    return [pick for many in range(len(terms) + 1) for pick in itertools.combinations(terms, many)]


def slow_forms(function, terms):
    """All forms of these good terms."""
    wanted = ones(function)
    return [pick for pick in choices(terms) if wanted <= all_held(pick)]


def signs(form):
    return sum(sign in "01" for term in form for sign in term)


def least_of(forms):
    """The first one of the fewest terms and signs, and how many have as few."""
    fewest = min((len(form), signs(form)) for form in forms)
    least = [form for form in forms if (len(form), signs(form)) == fewest]
    return min(least), len(least)


def all_functions(n):
    return list(itertools.product((0, 1, None), repeat=2 ** n))


def plain_functions(n):
    """All functions of n that are free nowhere."""
    return list(itertools.product((0, 1), repeat=2 ** n))


def some_functions(n, many):
    """Functions of n, the same ones in each run, with few and with many noughts, and the plain ones."""
    source = random.Random(1000 * n + many)
    told = [(answer,) * 2 ** n for answer in (0, 1, None)]
    told.append(tuple(point.bit_count() % 2 for point in range(2 ** n)))
    for at in range(many):
        pool = ((0, 1), (0, 1, None), (0, 1, 1, 1, None), (1, None), (0, None), (0, 0, 1))[at % 6]
        told.append(tuple(source.choice(pool) for _ in range(2 ** n)))
    return told


def crowded_functions():
    """Functions of four switches with many greatest terms, with no needed ones, or odd in other ways."""
    texts = (
        "1001011101111110", "0111101111100111", "1111101111011111", "1011110111101111", "1110101100111110",
        "-110101001111110", "11111-1111-1111-", "11111011-100111-", "111-00011-100011", "-1--01111-10111-",
        # Alike points are left by sweeps, and more terms have as few signs as the fewest terms.
        "1011110110111101", "1----1-1-10--10-", "1----01-----0---", "-0-11--0---1-1--",
    )
    return [read(text) for text in texts]


def read(text):
    return tuple({"0": 0, "1": 1, "-": None}[sign] for sign in text)


def many_functions():
    return all_functions(1) + all_functions(2) + some_functions(3, 600) + some_functions(4, 150)


def refusal_of(call, *handed):
    """The class of the refusal, None where there is none; each is made with one text."""
    try:
        call(*handed)
    except ValueError as refusal:
        assert len(refusal.args) == 1 and isinstance(refusal.args[0], str) and refusal.args[0], refusal.args
        return type(refusal)
    return None


def is_number(thing):
    return type(thing) is int


def is_pair(thing):
    return type(thing) is tuple and len(thing) == 2 and all(map(is_number, thing))


def other_things(part):
    """Things near to a part of a paper, and far from it."""
    told = [None, True, False, -1, 3, 16, "apart", "cases", "", (), [], {}, (part,), [part], ("apart", ()), 1.0]
    if type(part) is tuple:
        told += [list(part), part + part, part[::-1], part[1:], part[:-1], part + (0,), part + (7,), part + (None,)]
        for is_thing, pool in ((is_number, range(16)), (is_pair, list(itertools.product(range(3), range(8))))):
            if all(map(is_thing, part)):
                told += [tuple(sorted(part[:at] + (other,) + part[at + 1:])) for at in range(len(part))
                         for other in pool]
    if is_number(part):
        told += [part + 1, part - 1, str(part), float(part), bool(part)]
    return told


def near_papers(paper):
    """The paper with one part of it, at any depth, another thing."""
    yield from other_things(paper)
    if type(paper) is tuple:
        for at, part in enumerate(paper):
            for other in near_papers(part):
                yield paper[:at] + (other,) + paper[at + 1:]


def depth_of_cases(paper):
    return 0 if paper[0] == "apart" else 1 + max(depth_of_cases(inner) for inner in paper[2])


def good_numbers(functions, term):
    """The numbers of the functions for which the term is good."""
    return {number for number, function in enumerate(functions)
            if all(function[point] != 0 for point in POINTS[term])}


def slow_broad(functions):
    terms = TERMS[switches(functions[0])]
    numbers = {term: good_numbers(functions, term) for term in terms}
    return [
        term for term in terms
        if numbers[term] and not any(POINTS[term] < POINTS[other] and numbers[term] <= numbers[other]
                                     for other in terms)
    ]


def slow_is_shared(functions, pick):
    """Whether a rising tuple of terms of the functions' n is a shared form."""
    numbers = [good_numbers(functions, term) for term in pick]
    if set() in numbers:
        return False
    for number, function in enumerate(functions):
        if not ones(function) <= all_held([term for term, told in zip(pick, numbers) if number in told]):
            return False
    return True


def slow_least_length(functions, terms):
    """The fewest terms of a shared form of these terms, and of those forms the fewest signs."""
    for many in range(len(terms) + 1):
        told = [signs(pick) for pick in itertools.combinations(terms, many) if slow_is_shared(functions, pick)]
        if told:
            return many, min(told)


def some_groups(n, many):
    """Functions together, the same ones in each run: unlike ones, alike ones, opposite ones, free ones."""
    source = random.Random(77 * n + many)
    pool = some_functions(n, many)
    told = [(one, other) for one in pool[:4] for other in pool[:4]]
    told += [(one, one) for one in pool[::3]] + [(one, one, one) for one in pool[::5]]
    for one in pool[::2]:
        other = tuple(None if answer is None else 1 - answer for answer in one)
        told += [(one, other), (other, one, source.choice(pool)), (one, source.choice(pool), one)]
    for size in (2, 3):
        told += [tuple(source.choice(pool) for _ in range(size)) for _ in range(many)]
    return told


def no_groups():
    """Things that are no functions together."""
    one, two, three, four = (0, 1), (0, 1, 1, 0), read("01101001"), (0, 1) * 8
    told = [one, two, three, four, (one,), (two,), (one,) * 4, (two,) * 4, (one,) * 5, (), ((), ()), ((one, one),)]
    told += [(one, two), (two, one), (two, two, one), (one, two, two), (two, one, two), (three, two), (three, four)]
    told += [(four, four), (four, four, four), (three, three, four), (four, three, three)]
    told += [[one, one], [two, two, two], (one, [0, 1]), ([0, 1], one), (one, one, [0, 1]), {one: one}, {0: one, 1: one}]
    told += [(one, "01"), ("01", "01"), "01", "0101", (one, None), (None, one), (one, one, None), (two, (0, 1, 1))]
    told += [(one, (0, True)), ((False, 1), one), (two, (0, 1, 2, 0)), (one, (0.0, 1)), (two, two, (0, 1, 1, "0"))]
    told += [(0, 1), (0, 1, 0), (None, None), (True, True), None, "", {}, {one}, frozenset([one, two])]
    for thing in things() + odd_lists():
        told += [thing, (thing, thing), (one, thing), (thing, one, one), (two, two, thing)]
    return told


def all_changes(n):
    return list(itertools.product(itertools.permutations(range(n)), itertools.product((0, 1), repeat=n), (0, 1)))


def still(n):
    """The change that changes nothing."""
    return (tuple(range(n)), (0,) * n, 0)


def slow_changed(function, change):
    """By the words of point 71: for each point the one whose bits are told is looked for."""
    n = switches(function)
    order, turns, answer = change
    told = []
    for point in range(2 ** n):
        olds = [old for old in range(2 ** n)
                if all(int(bits(n, old)[order[k]]) == (int(bits(n, point)[k]) + turns[k]) % 2 for k in range(n))]
        assert len(olds) == 1
        told.append({(0, 1): 1, (1, 1): 0}.get((function[olds[0]], answer), function[olds[0]]))
    return tuple(told)


def no_changes(n):
    """Things that are no change of n, near ones and far ones."""
    order, turns, answer = tuple(range(n)), (0,) * n, 0
    told = [(), (order,), (order, turns), (order, turns, answer, 0), (turns, order, answer), (answer, order, turns)]
    told += [[order, turns, answer], (list(order), turns, answer), (order, list(turns), answer), (order, turns, [0])]
    told += [(order, turns, other) for other in (True, False, None, 2, -1, 0.0, 1.0, "0", "", (), (0,), {}, 10 ** 29)]
    told += [(other, turns, answer) for other in (None, 0, True, "", "0123"[:n], (), dict.fromkeys(order), set(order))]
    told += [(order, other, answer) for other in (None, 0, False, "", "0000"[:n], (), dict.fromkeys(order))]
    told += [(order + (n,), turns, answer), (order[1:], turns, answer), (order[:-1], turns, answer)]
    told += [(order + order, turns, answer), (order, turns + (0,), answer), (order, turns[1:], answer)]
    told += [(order, turns + turns, answer), (order + (0,), turns + (0,), answer), (order[1:], turns[1:], answer)]
    for at in range(n):
        for other in (True, False, None, -1, n, n + 1, 10 ** 29, float(at), str(at), (at,), [at], "", {}):
            told.append((order[:at] + (other,) + order[at + 1:], turns, answer))
        told += [(order[:at] + (other,) + order[at + 1:], turns, answer) for other in order if other != at]
        for other in (True, False, None, -1, 2, 10 ** 29, 0.0, 1.0, "0", "1", (), (0,), [0], {}):
            told.append((order, turns[:at] + (other,) + turns[at + 1:], answer))
    for other in {1, 2, 3, 4} - {n}:
        told += [still(other), (still(other)[0], turns, answer), (order, still(other)[1], answer)]
    for thing in things() + odd_lists():
        told += [thing, (thing,), (thing, turns, answer), (order, thing, answer), (order, turns, thing)]
        told += [(thing, thing, thing), (thing, turns, answer, 0)]
    # Some of these are changes of some n; a truth is like a number, but not written like one.
    changes = all_changes(n)
    written = set(map(repr, changes))
    return [thing for thing in told if thing not in changes or repr(thing) not in written]


def slow_steps(function):
    n = switches(function)
    return [
        (one, other) for one, other in itertools.combinations(sorted(ones(function)), 2)
        if sum(left != right for left, right in zip(bits(n, one), bits(n, other))) == 1
    ]


def slow_gaps(function, form):
    return [step for step in slow_steps(function) if not any(set(step) <= POINTS[term] for term in form)]


def text_of(function):
    return "".join("-" if answer is None else str(answer) for answer in function)
