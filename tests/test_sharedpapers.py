import itertools
import unittest

from helpers import (POINTS, TERMS, all_functions, depth_of_cases, good_numbers, is_pair, near_papers, no_groups,
                     odd_lists, read, refusal_of, slow_broad, slow_least_length, some_groups, switches, things)
from leastterms.errors import NoFunction, NoNumber
from leastterms.sharedpapers import shared_paper, shared_shows

NO_MANY = [True, False, None, -1, 25, 10 ** 29, -10 ** 29, 1.0, 0.0, "1", "", (), (1,), [], [1], {}, {1: 1}, b"1"]

PAIR = (read("0110"), read("0100"))
RING = (read("01111110"), read("01111110"))


def holds(functions, term, thing):
    return thing[0] in good_numbers(functions, term) and thing[1] in POINTS[term]


def is_free_thing(functions, taken, thing):
    """Whether it is a thing to be held that no taken term holds."""
    if not is_pair(thing):
        return False
    number, point = thing
    if number not in range(len(functions)) or point not in range(len(functions[0])):
        return False
    return functions[number][point] == 1 and not any(holds(functions, term, thing) for term in taken)


def slow_shows(functions, many, paper, taken=()):
    """By the words of point 63, with all terms where these are told."""
    if type(paper) is not tuple or not paper or type(paper[0]) is not str:
        return False
    if paper[0] == "apart" and len(paper) == 2:
        told = paper[1]
        if type(told) is not tuple or not all(is_free_thing(functions, taken, thing) for thing in told):
            return False
        both = any(holds(functions, term, one) and holds(functions, term, other)
                   for one, other in itertools.combinations(told, 2) for term in TERMS[switches(functions[0])])
        return list(told) == sorted(set(told)) and not both and len(told) + len(set(taken)) > many
    if paper[0] == "cases" and len(paper) == 3:
        thing, papers = paper[1:]
        if not is_free_thing(functions, taken, thing) or type(papers) is not tuple:
            return False
        holding = [term for term in slow_broad(functions) if holds(functions, term, thing)]
        return len(papers) == len(holding) and all(
            slow_shows(functions, many, inner, taken + (term,)) for term, inner in zip(holding, papers))
    return False


class Refusals(unittest.TestCase):
    def test_no_function_ahead_of_no_number(self):
        for thing in no_groups():
            for many in (0, 24, 25, -1, None, thing):
                self.assertIs(refusal_of(shared_paper, thing, many), NoFunction, thing)
                self.assertIs(refusal_of(shared_shows, thing, many, ("apart", ())), NoFunction, thing)

    def test_no_number(self):
        for functions in (((0, 0), (0, 0)), PAIR, RING, (RING[0], (None,) * 8, (1,) * 8)):
            for many in NO_MANY + odd_lists():
                self.assertIs(refusal_of(shared_paper, functions, many), NoNumber, many)
                for thing in (("apart", ()), ("apart", ((0, 1),)), None, [], many):
                    self.assertIs(refusal_of(shared_shows, functions, many, thing), NoNumber, many)

    def test_each_number_that_is_let(self):
        for many in range(25):
            self.assertIsNone(refusal_of(shared_paper, PAIR, many))
            self.assertIsNone(refusal_of(shared_shows, PAIR, many, None))


class Shows(unittest.TestCase):
    def shown(self, functions, many, *papers):
        for paper in papers:
            self.assertIs(slow_shows(functions, many, paper), True, paper)
            self.assertIs(shared_shows(functions, many, paper), True, paper)

    def wrong(self, functions, many, *papers):
        for paper in papers:
            self.assertIs(slow_shows(functions, many, paper), False, paper)
            self.assertIs(shared_shows(functions, many, paper), False, paper)

    def test_things_apart(self):
        self.shown(PAIR, 1, ("apart", ((0, 1), (0, 2))), ("apart", ((0, 2), (1, 1))))
        self.shown(PAIR, 0, ("apart", ((0, 1),)), ("apart", ((0, 2),)), ("apart", ((1, 1),)))
        self.shown(RING, 2, ("apart", ((0, 1), (0, 2), (0, 4))), ("apart", ((0, 1), (1, 2), (1, 4))))
        self.shown(((0, 1), (1, 0)), 1, ("apart", ((0, 1), (1, 0))))
        self.shown(((1, 0), (1, 1), (0, 1)), 1, ("apart", ((0, 0), (2, 1))))

    def test_wrong_things(self):
        self.wrong(
            PAIR, 1,
            ("apart", ()), ("apart", ((0, 1),)), ("apart", ((0, 2),)), ("apart", ((0, 2), (0, 1))),
            ("apart", ((0, 1), (0, 1))), ("apart", ((0, 1), (0, 1), (0, 2))), ("apart", ((0, 1), (1, 1))),
            ("apart", ((0, 1), (0, 2), (1, 1))), ("apart", ((0, 0), (0, 1))), ("apart", ((0, 1), (0, 2), (0, 3))),
            ("apart", ((0, 2), (1, 2))), ("apart", ((0, 1), (1, 2))), ("apart", ((0, 1), (2, 2))),
            ("apart", ((0, 2), (2, 1))), ("apart", ((-1, 1), (0, 2))), ("apart", ((-2, 1), (0, 2))),
            ("apart", ((0, -3), (0, 2))), ("apart", ((0, 1), (0, 4))), ("apart", ((0, 1), (0, 10 ** 29))),
            ("apart", ((0, True), (0, 2))), ("apart", ((False, 1), (0, 2))), ("apart", ((0, 2), (True, 1))),
            ("apart", ((0, 2), (1, True))), ("apart", ((0, 1.0), (0, 2))), ("apart", ((0, "1"), (0, 2))),
            ("apart", ((0, 1, 0), (0, 2))), ("apart", ((0,), (1,))), ("apart", ((), ())), ("apart", (1, 2)),
            ("apart", ([0, 1], (0, 2))), ("apart", ((0, 1), [0, 2])), ("apart", ([0, 1], [0, 2])),
            ("apart", ("01", "02")), ("apart", ((0, 1), None)), ("apart", ((0, 1), (0, None))),
            ("apart", ((1, 0), (2, 0))), ("apart", (((0, 1),), ((0, 2),))), ("apart", ((0, 1), 2)),
        )
        self.wrong(PAIR, 2, ("apart", ((0, 1), (0, 2))), ("apart", ((0, 1), (0, 2), (1, 1))))
        self.wrong(((1, 1), (1, 1)), 0, ("apart", ((False, 0),)), ("apart", ((0, False),)), ("apart", ((True, True),)))
        # A free point has no 1, and a term of free points is good.
        self.wrong((read("1-01"), read("0000")), 1, ("apart", ((0, 0), (0, 1))), ("apart", ((0, 1), (0, 3))))
        self.shown((read("1-01"), read("0000")), 1, ("apart", ((0, 0), (0, 3))))
        self.wrong((read("1--1"), read("0000")), 1, ("apart", ((0, 0), (0, 3))))
        # One term that is good for both functions holds both, a term that is good for one alone does not.
        self.wrong((read("1100"), read("1100")), 1, ("apart", ((0, 0), (1, 1))))
        self.shown((read("1100"), read("0110")), 1, ("apart", ((0, 0), (1, 1))))
        self.wrong((read("1100"), read("0110")), 1, ("apart", ((0, 1), (1, 1))))

    def test_wrong_kinds(self):
        two = ((0, 1), (0, 2))
        self.shown(PAIR, 1, ("apart", two))
        self.wrong(
            PAIR, 1,
            ["apart", two], ("apart", list(two)), ("apart", dict(two)), ("apart", set(two)), ("apart",) + two,
            ("apart", two, ()), ("apart",), ("apart", None), ("apart", 3), (two, "apart"), ("Apart", two),
            ("apart ", two), (b"apart", two), ("cases", two), (None, two), (["apart"], two), {"apart": two}, "apart",
            (("apart", two),), ("", two), (0, two), two, ("apart", (two,)), {0: "apart", 1: two}, ("apart", "0102"),
        )

    def test_cases(self):
        rest, last = ("apart", ((0, 2),)), ("apart", ())
        self.shown(PAIR, 1, ("cases", (0, 1), (rest,)), ("cases", (1, 1), (rest,)))
        self.shown(PAIR, 1, ("cases", (0, 2), (("apart", ((0, 1),)),)), ("cases", (0, 2), (("apart", ((1, 1),)),)))
        self.shown(PAIR, 1, ("cases", (0, 1), (("cases", (0, 2), (last,)),)))
        self.shown(PAIR, 0, ("cases", (0, 1), (last,)), ("cases", (0, 1), (("cases", (0, 2), (last,)),)))
        # Two broad terms hold the 1 of the second function, "-1" and "01".
        wide = (read("0101"), read("0100"))
        self.shown(wide, 1, ("cases", (0, 1), (("apart", ((1, 1),)), ("apart", ((0, 3),)))))
        self.shown(wide, 1, ("cases", (1, 1), (("apart", ((0, 3),)),)))
        self.shown(RING, 2, ("cases", (0, 1), (("apart", ((0, 3), (1, 4))), ("apart", ((1, 2), (1, 5))))))

    def test_wrong_cases(self):
        rest = ("apart", ((0, 2),))
        self.wrong(
            PAIR, 1,
            ("cases", (0, 1), ()), ("cases", (0, 1), (rest, rest)), ("cases", (0, 1), rest), ("cases", (0, 1), [rest]),
            ["cases", (0, 1), (rest,)], ("cases", [0, 1], (rest,)), ("cases", (0, True), (rest,)),
            ("cases", (False, 1), (rest,)), ("cases", (True, 1), (rest,)), ("cases", (0, 1.0), (rest,)),
            ("cases", (0, "1"), (rest,)), ("cases", "01", (rest,)), ("cases", 1, (rest,)), ("cases", (1,), (rest,)),
            ("cases", (0, 1, 0), (rest,)), ("cases", None, (rest,)), ("cases", {}, (rest,)), ("cases", (), (rest,)),
            ("cases", (0, 0), ()), ("cases", (0, 0), (rest,)), ("cases", (0, 3), ()), ("cases", (1, 2), ()),
            ("cases", (1, 2), (rest,)), ("cases", (2, 1), (rest,)), ("cases", (-1, 1), (rest,)), ("cases", (0, 4), ()),
            ("cases", (0, -3), (rest,)), ("cases", (2, 0), ()), ("cases", (3, 1), ()), ("cases", (0, 10 ** 29), ()),
            ("cases", (0, 2), (rest,)), ("cases", (0, 1), (("apart", ((0, 1),)),)),
            ("cases", (0, 1), (("apart", ((1, 1),)),)), ("cases", (0, 1), (("apart", ((0, 2), (1, 1))),)),
            ("cases", (0, 1), (("apart", ()),)), ("cases", (0, 1), (("cases", (0, 1), (("apart", ()),)),)),
            ("cases", (0, 1), (("cases", (1, 1), (("apart", ()),)),)), ("cases", (0, 1), (("cases", (0, 2), ()),)),
            ("cases", (0, 1), (("cases", (0, 2), (rest,)),)), ("cases", (0, 1), (None,)),
            ("cases", (0, 1), (list(rest),)), ("cases", (0, 1)), ("cases", (0, 1), (rest,), ()),
            ("Cases", (0, 1), (rest,)), ("apart", (0, 1), (rest,)), ("cases", (rest,), (0, 1)),
        )
        self.wrong(PAIR, 2, ("cases", (0, 1), (rest,)), ("cases", (0, 1), (("cases", (0, 2), (("apart", ()),)),)))
        wide = (read("0101"), read("0100"))
        one, other = ("apart", ((1, 1),)), ("apart", ((0, 3),))
        self.wrong(
            wide, 1,
            ("cases", (0, 1), (other, one)), ("cases", (0, 1), (one,)), ("cases", (0, 1), (other,)),
            ("cases", (0, 1), (one, one)), ("cases", (0, 1), (other, other)), ("cases", (0, 1), (one, other, other)),
            ("cases", (0, 1), (one, ())), ("cases", (0, 1), (one, ("apart", ()))),
        )

    def test_of_anything(self):
        for functions in (((0, 1), (1, 1)), ((0, 0), (0, 0)), PAIR, RING, ((1,) * 8,) * 3):
            for many in (0, 1, 24):
                for thing in things() + odd_lists():
                    self.wrong(functions, many, thing, (thing, ()), (thing, (0, 1), ()), ("cases", thing, ()))
                    self.wrong(functions, many, ("apart", thing), ("apart", (thing,)))
                    for paper in (("apart", ((0, thing),)), ("apart", ((thing, 1),)), ("cases", (thing, thing), ()),
                                  ("cases", (0, 1), thing), ("cases", (0, 1), (thing,)),
                                  ("cases", (0, 1), (("apart", (thing,)),)), ("cases", (0, 1), (("apart", thing),))):
                        told = shared_shows(functions, many, paper)
                        self.assertIs(told, slow_shows(functions, many, paper), (functions, many, paper))

    def test_papers_near_to_some(self):
        groups = some_groups(1, 3)[::5] + some_groups(2, 6)[::5] + some_groups(3, 6)[::9] + [PAIR, RING, crowded()]
        for functions in groups:
            for many in range(3):
                paper = shared_paper(functions, many) or ("cases", (0, 1), (("apart", ((0, 2), (1, 1))), ("apart", ())))
                for near in near_papers(paper):
                    told = shared_shows(functions, many, near)
                    self.assertIs(told, slow_shows(functions, many, near), (functions, many, near))

    def test_all_small_papers(self):
        pairs = list(itertools.product(range(3), range(2)))
        leaves = [("apart", pick) for many in range(4) for pick in itertools.combinations(pairs, many)]
        papers = leaves + [("cases", pair, pick) for pair in pairs for many in range(3)
                           for pick in itertools.product(leaves[:6], repeat=many)]
        for functions in list(itertools.product(all_functions(1), repeat=2)) + some_groups(1, 9):
            for many in range(3):
                for paper in papers:
                    told = shared_shows(functions, many, paper)
                    self.assertIs(told, slow_shows(functions, many, paper), (functions, many, paper))


def crowded():
    """Functions whose papers have cases within cases."""
    return (read("11101101"), read("01111001"), read("10111111"))


class Told(unittest.TestCase):
    def check(self, functions):
        fewest = slow_least_length(functions, slow_broad(functions))[0]
        deepest = 0
        for many in range(25):
            paper = shared_paper(functions, many)
            self.assertEqual(paper is None, fewest <= many, (functions, many))
            if paper is not None:
                self.assertIs(slow_shows(functions, many, paper), True, (functions, many))
                self.assertIs(shared_shows(functions, many, paper), True, (functions, many))
                for more in range(fewest, 25):
                    self.assertIs(shared_shows(functions, more, paper), False, (functions, more))
                deepest = max(deepest, depth_of_cases(paper))
        return deepest

    def test_of_one_and_two_switches(self):
        for functions in list(itertools.product(all_functions(1), repeat=2)) + some_groups(2, 60):
            self.check(functions)

    def test_of_three_switches(self):
        for functions in some_groups(3, 60):
            self.check(functions)

    def test_cases_within_cases(self):
        self.assertGreaterEqual(self.check(crowded()), 2)

    def test_no_one(self):
        for n in (1, 2, 3):
            for functions in itertools.product(((0,) * 2 ** n, (None,) * 2 ** n), repeat=2):
                for many in (0, 1, 24):
                    self.assertIsNone(shared_paper(functions, many))
                    self.assertIs(shared_shows(functions, many, ("apart", ())), False)


if __name__ == "__main__":
    unittest.main()
