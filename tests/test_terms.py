import unittest

from helpers import POINTS, TERMS, odd_lists, refusal_of, things
from leastterms.errors import NoNumber
from leastterms.terms import is_term, lies_in, meet, points_of


class IsTerm(unittest.TestCase):
    def test_terms_of_n(self):
        for n in range(1, 5):
            for many in range(1, 5):
                for term in TERMS[many]:
                    self.assertIs(is_term(n, term), n == many, (n, term))

    def test_one_wrong_sign_anywhere(self):
        for n in range(1, 5):
            for term in TERMS[n]:
                for at in range(n):
                    for wrong in ("2", "x", " ", "", "01", "-0", "\u0661", "\u2212", "\n", "O"):
                        self.assertIs(is_term(n, term[:at] + wrong + term[at + 1:]), False, (term, at, wrong))

    def test_no_term_is_of_another_kind(self):
        for n in range(1, 5):
            for thing in things() + odd_lists() + [list("01-")[:n], tuple("01-0")[:n], "01-0"[:n].encode(), int("1" * n)]:
                self.assertIs(is_term(n, thing), False, (n, thing))

    def test_no_number(self):
        for n in things() + odd_lists():
            for thing in ("0", "-", "", None, n):
                self.assertIs(refusal_of(is_term, n, thing), NoNumber, n)


class Points(unittest.TestCase):
    def test_written_out(self):
        self.assertEqual(points_of("0"), [0])
        self.assertEqual(points_of("1"), [1])
        self.assertEqual(points_of("-"), [0, 1])
        self.assertEqual(points_of("1--"), [4, 5, 6, 7])
        self.assertEqual(points_of("-0-1"), [1, 3, 9, 11])

    def test_of_each_term(self):
        for term, points in POINTS.items():
            told = points_of(term)
            self.assertIs(type(told), list)
            self.assertEqual(told, sorted(points), term)

    def test_somewhat_beyond_four(self):
        self.assertEqual(points_of("-----"), list(range(32)))
        self.assertEqual(points_of("1-0-01"), [33, 37, 49, 53])


class TwoTerms(unittest.TestCase):
    def test_lies_in(self):
        for n in range(1, 5):
            for one in TERMS[n]:
                for other in TERMS[n]:
                    self.assertIs(lies_in(one, other), POINTS[one] <= POINTS[other], (one, other))

    def test_meet(self):
        for n in range(1, 5):
            by_points = {frozenset(POINTS[term]): term for term in TERMS[n]}
            for one in TERMS[n]:
                for other in TERMS[n]:
                    both = frozenset(POINTS[one] & POINTS[other])
                    self.assertEqual(meet(one, other), by_points.get(both), (one, other))

    def test_meet_of_nothing_in_common_is_none(self):
        self.assertIsNone(meet("0-", "1-"))
        self.assertIsNone(meet("--01", "--11"))
        self.assertEqual(meet("0-", "-1"), "01")


if __name__ == "__main__":
    unittest.main()
