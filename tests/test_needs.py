import unittest

from helpers import (POINTS, all_functions, crowded_functions, many_functions, odd_lists, ones, read, refusal_of,
                     signs, slow_greatest, things)
from leastterms.errors import NoFunction
from leastterms.needs import needed, sole_points, swept


def slow_sole(points, terms):
    told = []
    for point in sorted(points):
        holding = [term for term in terms if point in POINTS[term]]
        if len(holding) == 1:
            told.append((point, holding[0]))
    return told


def slow_sweep(points, terms):
    """One sweep of two sets, step by step: what is taken, and the two sets that are left."""
    taken = {term for _, term in slow_sole(points, terms)}
    points = {point for point in points if not any(point in POINTS[term] for term in taken)}
    above = {point: {term for term in terms if point in POINTS[term]} for point in points}
    gone = set()
    for one in points:
        for other in points - {one}:
            if above[one] < above[other]:
                gone.add(other)
            elif above[one] == above[other]:
                gone.add(max(one, other))
    points = points - gone
    below = {term: POINTS[term] & points for term in terms}
    gone = {term for term in terms if not below[term]}
    for one in terms:
        for other in terms - {one}:
            if below[other] <= below[one] and signs([one]) <= signs([other]):
                same = below[other] == below[one] and signs([one]) == signs([other])
                gone.add(max(one, other) if same else other)
    return taken, points, terms - gone


def slow_sweeps(function):
    """What each sweep that changes something takes and leaves."""
    points, terms = ones(function), set(slow_greatest(function))
    told = []
    while True:
        taken, points_left, terms_left = slow_sweep(points, terms)
        if (points_left, terms_left) == (points, terms):
            assert not taken
            return told
        told.append((taken, points_left, terms_left))
        points, terms = points_left, terms_left


def slow_swept(function):
    sweeps = slow_sweeps(function)
    if not sweeps:
        return (), tuple(sorted(ones(function))), tuple(slow_greatest(function))
    taken = set().union(*[sweep[0] for sweep in sweeps])
    return tuple(sorted(taken)), tuple(sorted(sweeps[-1][1])), tuple(sorted(sweeps[-1][2]))


class Refusals(unittest.TestCase):
    def test_no_function(self):
        for thing in things() + odd_lists() + [[0, 1], (0, 1, 2, 0), (0, True), "01"]:
            for told in (sole_points, needed, swept):
                self.assertIs(refusal_of(told, thing), NoFunction, thing)


class Needed(unittest.TestCase):
    def test_written_out(self):
        self.assertEqual(sole_points((0, 1, 1, 1)), [(1, "-1"), (2, "1-")])
        self.assertEqual(needed((0, 1, 1, 1)), ["-1", "1-"])
        self.assertEqual(sole_points((1, 1)), [(0, "-"), (1, "-")])
        self.assertEqual(needed((1, 1)), ["-"])
        self.assertEqual(sole_points((None, 0, 1, 1)), [(3, "1-")])
        self.assertEqual(sole_points(read("00011-11")), [(3, "-11"), (4, "1--"), (6, "1--")])
        self.assertEqual(sole_points(read("00010011")), [(3, "-11"), (6, "11-")])

    def test_terms_rise_though_their_points_do_not(self):
        # 000 alone holds 0, and -11 holds the greater points but is the lesser text.
        self.assertEqual(sole_points(read("10010001")), [(0, "000"), (3, "-11"), (7, "-11")])
        self.assertEqual(needed(read("10010001")), ["-11", "000"])

    def test_none(self):
        for n in range(1, 5):
            for answer in (0, None):
                self.assertEqual(sole_points((answer,) * 2 ** n), [])
                self.assertEqual(needed((answer,) * 2 ** n), [])
        self.assertEqual(sole_points(read("01111110")), [])
        self.assertEqual(needed(read("01111110")), [])
        self.assertEqual(needed(read("0--1")), [])

    def test_of_many_functions(self):
        for function in all_functions(3) + many_functions() + crowded_functions():
            told = sole_points(function)
            self.assertIs(type(told), list)
            self.assertTrue(all(type(pair) is tuple for pair in told))
            self.assertEqual(told, slow_sole(ones(function), slow_greatest(function)), function)
            names = needed(function)
            self.assertIs(type(names), list)
            self.assertEqual(names, sorted({term for _, term in told}), function)


class Swept(unittest.TestCase):
    def test_written_out(self):
        self.assertEqual(swept((0, 1, 1, 1)), (("-1", "1-"), (), ()))
        self.assertEqual(swept((1, 1)), (("-",), (), ()))

    def test_with_no_one(self):
        for n in range(1, 5):
            for answers in ((0, 0), (None, None), (0, None)):
                self.assertEqual(swept(answers * 2 ** (n - 1)), ((), (), ()))

    def test_of_two_alike_terms_the_greater_goes(self):
        # Both -1 and 1- hold 3 alone of the 1s; the second sweep takes the one that is left.
        self.assertEqual(slow_sweeps(read("0--1"))[0], (set(), {3}, {"-1"}))
        self.assertEqual(swept(read("0--1")), (("-1",), (), ()))

    def test_a_term_with_fewer_signs_stays(self):
        # 7 is held by --1, with one sign, and by 11-, the greater text with two.
        self.assertEqual(swept(read("0-0-0--1")), (("--1",), (), ()))
        # 6 is held by -10, the lesser text with two signs, and by 1--, with one.
        self.assertEqual(swept(read("00-0--1-")), (("1--",), (), ()))

    def test_nothing_changes(self):
        ring = ("-01", "-10", "0-1", "01-", "1-0", "10-")
        self.assertEqual(slow_sweeps(read("01111110")), [])
        self.assertEqual(swept(read("01111110")), ((), (1, 2, 3, 4, 5, 6), ring))

    def test_of_two_alike_points_the_greater_goes(self):
        # The ring of six terms stands twice, with switch 0 free, so p and p + 8 are held by the same terms.
        ring = ("--00", "--11", "-0-0", "-01-", "-1-1", "-10-")
        self.assertEqual(slow_greatest(read("1011110110111101")), list(ring))
        self.assertEqual(swept(read("1011110110111101")), ((), (0, 2, 3, 4, 5, 7), ring))

    def test_a_third_and_a_fourth_sweep(self):
        self.assertEqual(len(slow_sweeps(read("011111-0"))), 3)
        self.assertEqual(swept(read("011111-0")), (("-01", "01-", "10-"), (), ()))
        self.assertEqual(len(slow_sweeps(read("11111011-100111-"))), 4)
        self.assertEqual(swept(read("11111011-100111-")), (("-00-", "-1-0", "0-1-", "1-0-"), (), ()))

    def test_something_is_left_behind_some_sweeps(self):
        self.assertEqual(
            swept(read("111-00011-100011")),
            (("-111", "1-10"), (1, 2, 8), ("-0-0", "-00-", "00--")),
        )

    def test_of_many_functions(self):
        sweeps = {}
        for function in all_functions(3) + many_functions() + crowded_functions():
            told = swept(function)
            self.assertEqual([type(part) for part in (told,) + told], [tuple] * 4)
            self.assertEqual(told, slow_swept(function), function)
            kind = (len(slow_sweeps(function)), bool(told[1]))
            sweeps[kind] = sweeps.get(kind, 0) + 1
        for kind in ((1, False), (2, False), (3, False), (4, False), (0, True), (1, True), (2, True), (3, True)):
            self.assertIn(kind, sweeps)


if __name__ == "__main__":
    unittest.main()
