import itertools
import unittest

from helpers import (POINTS, all_functions, crowded_functions, depth_of_cases, is_number, least_of, near_papers,
                     odd_lists, ones, plain_functions, read, refusal_of, slow_forms, slow_good, slow_greatest,
                     some_functions, things)
from leastterms.errors import NoFunction, NoNumber
from leastterms.papers import paper_for, paper_shows

NO_MANY = [True, False, None, -1, 17, 10 ** 29, -10 ** 29, 1.0, 0.0, "1", "", (), (1,), [], [1], {}, {1: 1}, b"1"]


def slow_shows(function, many, paper, taken=()):
    """By the words of point 43, with all good terms where these are told."""
    if type(paper) is not tuple or not paper or type(paper[0]) is not str:
        return False
    free = ones(function) - set().union(*[POINTS[term] for term in taken])
    if paper[0] == "apart" and len(paper) == 2:
        points = paper[1]
        if type(points) is not tuple or not all(is_number(point) and point in free for point in points):
            return False
        both = any({one, other} <= POINTS[term] for one, other in itertools.combinations(points, 2)
                   for term in slow_good(function))
        return list(points) == sorted(set(points)) and not both and len(points) + len(set(taken)) > many
    if paper[0] == "cases" and len(paper) == 3:
        point, papers = paper[1:]
        if not is_number(point) or point not in free or type(papers) is not tuple:
            return False
        holding = [term for term in slow_greatest(function) if point in POINTS[term]]
        return len(papers) == len(holding) and all(
            slow_shows(function, many, inner, taken + (term,)) for term, inner in zip(holding, papers))
    return False


class Refusals(unittest.TestCase):
    def test_no_function_ahead_of_no_number(self):
        for thing in things() + odd_lists() + [[0, 1], (0, 1, 2, 0), (0, True), "01"]:
            for many in (0, 16, 17, -1, None, thing):
                self.assertIs(refusal_of(paper_for, thing, many), NoFunction, thing)
                self.assertIs(refusal_of(paper_shows, thing, many, ("apart", ())), NoFunction, thing)

    def test_no_number(self):
        for function in ((0, 0), (1, 1), read("0110"), read("01111110"), (None,) * 16):
            for many in NO_MANY + odd_lists():
                self.assertIs(refusal_of(paper_for, function, many), NoNumber, many)
                for thing in (("apart", ()), ("apart", (1, 2)), None, [], many):
                    self.assertIs(refusal_of(paper_shows, function, many, thing), NoNumber, many)

    def test_each_number_that_is_let(self):
        for many in range(17):
            self.assertIsNone(refusal_of(paper_for, (0, 1), many))
            self.assertIsNone(refusal_of(paper_shows, (0, 1), many, None))


class Shows(unittest.TestCase):
    function = read("0110")
    ring = read("01111110")

    def shown(self, function, many, *papers):
        for paper in papers:
            self.assertIs(slow_shows(function, many, paper), True, paper)
            self.assertIs(paper_shows(function, many, paper), True, paper)

    def wrong(self, function, many, *papers):
        for paper in papers:
            self.assertIs(paper_shows(function, many, paper), False, paper)

    def test_points_apart(self):
        self.shown(self.function, 1, ("apart", (1, 2)))
        self.shown(self.function, 0, ("apart", (1,)), ("apart", (2,)), ("apart", (1, 2)))
        self.shown(self.ring, 2, ("apart", (1, 2, 4)), ("apart", (3, 5, 6)))
        self.shown(self.ring, 1, ("apart", (1, 6)))
        self.shown(read("1-01"), 1, ("apart", (0, 3)))

    def test_wrong_points(self):
        self.wrong(
            self.function, 1,
            ("apart", (1,)), ("apart", (2,)), ("apart", ()), ("apart", (2, 1)), ("apart", (1, 1)), ("apart", (1, 1, 2)),
            ("apart", (0, 1)), ("apart", (0, 1, 2)), ("apart", (1, 2, 3)), ("apart", (1, 2, 4)), ("apart", (-3, 1, 2)),
            ("apart", (True, 2)), ("apart", (1.0, 2)), ("apart", (1, "2")), ("apart", ("1", "2")),
            ("apart", (1, None)), ("apart", (None, None)), ("apart", ((1,), (2,))), ("apart", ([1], [2])),
        )
        self.wrong(self.function, 0, ("apart", ()), ("apart", (0,)), ("apart", (True,)), ("apart", (3,)))
        self.wrong(self.function, 2, ("apart", (1, 2)))
        self.wrong((1, 1), 0, ("apart", (False,)), ("apart", (True,)))
        # A good term holds both, over 1s and over free points.
        self.wrong(self.ring, 2, ("apart", (1, 2, 3)), ("apart", (1, 2, 5)), ("apart", (1, 2)))
        self.wrong(self.ring, 1, ("apart", (1, 3)), ("apart", (2, 3)), ("apart", (1, 2, 3)))
        self.wrong(read("1--1"), 1, ("apart", (0, 3)))
        # A free point has no 1.
        self.wrong(read("1-01"), 1, ("apart", (0, 1)), ("apart", (1, 3)), ("apart", (0, 1, 3)))

    def test_wrong_kinds(self):
        self.wrong(
            self.function, 1,
            ["apart", (1, 2)], ("apart", [1, 2]), ("apart", {1: 1, 2: 2}), ("apart", {1, 2}), ("apart", "12"),
            ("apart", 1, 2), ("apart", (1, 2), ()), ("apart",), ("apart", None), ("apart", 3), ((1, 2), "apart"),
            ("Apart", (1, 2)), ("apart ", (1, 2)), (b"apart", (1, 2)), ("cases", (1, 2)), (None, (1, 2)),
            (["apart"], (1, 2)), {"apart": (1, 2)}, "apart", (("apart", (1, 2)),), ("", (1, 2)), (0, (1, 2)),
            ("apart", (1, 2), (("apart", (1, 2)),)), {0: "apart", 1: (1, 2)}, (1, 2),
        )

    def test_cases(self):
        self.shown(
            self.function, 1,
            ("cases", 1, (("apart", (2,)),)), ("cases", 2, (("apart", (1,)),)),
            ("cases", 1, (("cases", 2, (("apart", ()),)),)), ("cases", 2, (("cases", 1, (("apart", ()),)),)),
        )
        self.shown(self.function, 0, ("cases", 1, (("apart", ()),)), ("cases", 1, (("apart", (2,)),)))
        self.shown(self.function, 0, ("cases", 1, (("cases", 2, (("apart", ()),)),)))
        self.shown(
            self.ring, 2,
            ("cases", 1, (("apart", (3, 4)), ("apart", (2, 5)))),
            ("cases", 1, (("cases", 3, (("apart", (4,)), ("apart", (6,)))), ("apart", (2, 5)))),
        )

    def test_wrong_cases(self):
        one = ("apart", (2,))
        self.wrong(
            self.function, 1,
            ("cases", 1, ()), ("cases", 1, (one, one)), ("cases", 1, one), ("cases", 1, [one]), ["cases", 1, (one,)],
            ("cases", True, (one,)), ("cases", 1.0, (one,)), ("cases", "1", (one,)), ("cases", (1,), (one,)),
            ("cases", None, (one,)), ("cases", [1], (one,)), ("cases", {}, (one,)), ("cases", "01", (one,)),
            ("cases", 0, ()), ("cases", 0, (one,)), ("cases", 3, ()), ("cases", 3, (one,)), ("cases", -3, (one,)),
            ("cases", 4, ()), ("cases", -1, ()), ("cases", 17, ()), ("cases", 10 ** 29, ()),
            ("cases", 2, (one,)), ("cases", 1, (("apart", (1,)),)), ("cases", 1, (("apart", (1, 2)),)),
            ("cases", 1, (("apart", ()),)), ("cases", 1, (("cases", 1, (("apart", ()),)),)),
            ("cases", 1, (("cases", 2, ()),)), ("cases", 1, (("cases", 2, (("apart", (2,)),)),)),
            ("cases", 1, (("cases", 2, (("apart", (1,)),)),)), ("cases", 1, (None,)), ("cases", 1, (list(one),)),
            ("cases", 1), ("cases", 1, (one,), ()), ("Cases", 1, (one,)), ("apart", 1, (one,)), ("cases", (one,), 1),
        )
        self.wrong(self.function, 2, ("cases", 1, (one,)), ("cases", 1, (("cases", 2, (("apart", ()),)),)))
        left, right = ("apart", (3, 4)), ("apart", (2, 5))
        self.wrong(
            self.ring, 2,
            ("cases", 1, (right, left)), ("cases", 1, (left,)), ("cases", 1, (right,)), ("cases", 1, (left, left)),
            ("cases", 1, (left, right, right)), ("cases", 1, (left, ("apart", (5,)))), ("cases", 1, (left, ())),
            ("cases", 1, (("apart", (1, 3, 4)), right)), ("cases", 1, (("apart", (5, 4)), right)),
            ("cases", 1, (("cases", 3, (("apart", (6,)), ("apart", (6,)))), ("apart", (2, 5, 6)))),
            ("cases", 1, (("cases", 5, (("apart", (3,)), ("apart", (3,)))), right)),
        )

    def test_of_anything(self):
        for function in ((0, 1), (1, 1), (0, 0), self.function, self.ring, (1,) * 16):
            for many in (0, 1, 16):
                for thing in things() + odd_lists():
                    self.wrong(function, many, thing, (thing, ()), (thing, 1, ()), ("cases", thing, ()))
                    for paper in (("apart", thing), ("apart", (thing,)), ("cases", 1, thing), ("cases", 1, (thing,)),
                                  ("cases", 1, (("apart", (thing,)),)), ("cases", 1, (("apart", thing),))):
                        told = paper_shows(function, many, paper)
                        self.assertIs(told, slow_shows(function, many, paper), (function, many, paper))

    def test_papers_near_to_some(self):
        functions = all_functions(1) + all_functions(2)[::4] + some_functions(3, 12) + crowded_functions()[:3]
        for function in functions:
            for many in range(3):
                paper = paper_for(function, many) or ("cases", 1, (("apart", (2, 4)), ("apart", ())))
                for near in near_papers(paper):
                    told = paper_shows(function, many, near)
                    self.assertIs(told, slow_shows(function, many, near), (function, many, near))

    def test_all_small_papers(self):
        points = [pick for many in range(4) for pick in itertools.combinations(range(4), many)]
        leaves = [("apart", pick) for pick in points]
        papers = leaves + [("cases", point, pick) for point in range(4) for many in range(3)
                           for pick in itertools.product(leaves[:8], repeat=many)]
        for function in all_functions(2):
            for many in range(3):
                for paper in papers:
                    told = paper_shows(function, many, paper)
                    self.assertIs(told, slow_shows(function, many, paper), (function, many, paper))


class Told(unittest.TestCase):
    def check(self, function):
        fewest = len(least_of(slow_forms(function, slow_greatest(function)))[0])
        deepest = 0
        for many in range(17):
            paper = paper_for(function, many)
            self.assertEqual(paper is None, fewest <= many, (function, many))
            if paper is not None:
                self.assertIs(slow_shows(function, many, paper), True, (function, many))
                self.assertIs(paper_shows(function, many, paper), True, (function, many))
                for more in range(many, 17):
                    if paper_shows(function, more, paper):
                        self.assertLess(more, fewest)
                deepest = max(deepest, depth_of_cases(paper))
        return deepest

    def test_of_one_and_two_switches(self):
        for function in all_functions(1) + all_functions(2):
            self.check(function)

    def test_of_three_and_four_switches(self):
        for function in plain_functions(3) + some_functions(3, 200) + some_functions(4, 60):
            self.check(function)

    def test_cases_within_cases(self):
        self.assertGreaterEqual(max(self.check(function) for function in crowded_functions()), 2)

    def test_no_one(self):
        for n in range(1, 5):
            for answer in (0, None):
                for many in (0, 1, 16):
                    self.assertIsNone(paper_for((answer,) * 2 ** n, many))
                    self.assertIs(paper_shows((answer,) * 2 ** n, many, ("apart", ())), False)


if __name__ == "__main__":
    unittest.main()
