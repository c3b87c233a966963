import unittest

from helpers import (POINTS, TERMS, all_functions, many_functions, odd_lists, refusal_of, slow_good, slow_greatest,
                     some_functions, switches, things)
from leastterms.errors import NoFunction, NoTerm
from leastterms.greatest import good_terms, greatest, is_good, levels, widened

WITH_A_FUNCTION_ALONE = (good_terms, greatest, levels)
WITH_A_TERM = (is_good, widened)


def slow_widened(good, term):
    for at in range(len(term)):
        wider = term[:at] + "-" + term[at + 1:]
        if wider in good:
            term = wider
    return term


class Refusals(unittest.TestCase):
    def test_no_function(self):
        for thing in things() + odd_lists() + [[0, 1], (0, 1, 2, 0), (0, True), "01"]:
            for told in WITH_A_FUNCTION_ALONE:
                self.assertIs(refusal_of(told, thing), NoFunction, thing)

    def test_no_function_ahead_of_no_term(self):
        for thing in things() + odd_lists():
            for told in WITH_A_TERM:
                for term in ("0", "00", "", None, [], thing):
                    self.assertIs(refusal_of(told, thing, term), NoFunction, thing)

    def test_no_term_of_what_is_no_term_of_n(self):
        for n in range(1, 5):
            others = [term for many in range(1, 5) if many != n for term in TERMS[many]]
            for function in ((1,) * 2 ** n, (0,) * 2 ** n, (None,) * 2 ** n):
                for thing in things() + odd_lists() + others:
                    for told in WITH_A_TERM:
                        self.assertIs(refusal_of(told, function, thing), NoTerm, thing)


class Good(unittest.TestCase):
    def test_each_term_of_many_functions(self):
        for function in many_functions():
            good = slow_good(function)
            for term in TERMS[switches(function)]:
                self.assertIs(is_good(function, term), term in good, (function, term))

    def test_all_good_terms_rising(self):
        for function in many_functions():
            told = good_terms(function)
            self.assertIs(type(told), list)
            self.assertEqual(told, slow_good(function), function)

    def test_written_out(self):
        self.assertEqual(good_terms((0, 0)), [])
        self.assertEqual(good_terms((1, None)), ["-", "0", "1"])
        self.assertEqual(good_terms((0, 1, None, 1)), ["-1", "01", "1-", "10", "11"])


class Greatest(unittest.TestCase):
    def test_written_out(self):
        self.assertEqual(greatest((0, 1, None, 1)), ["-1", "1-"])
        self.assertEqual(greatest((1, 1, 0, 1, 1, 0, 1, 1)), ["-00", "-11", "0-1", "00-", "1-0", "11-"])
        self.assertEqual(greatest((1, 0, None, None)), ["-0"])

    def test_of_many_functions(self):
        for function in all_functions(3) + many_functions():
            told = greatest(function)
            self.assertIs(type(told), list)
            self.assertEqual(told, slow_greatest(function), function)

    def test_with_no_one_with_no_nought_and_free_alone(self):
        for n in range(1, 5):
            self.assertEqual(greatest((0,) * 2 ** n), [])
            self.assertEqual(greatest((None,) * 2 ** n), [])
            self.assertEqual(greatest((0, None) * 2 ** (n - 1)), [])
            self.assertEqual(greatest((1,) * 2 ** n), ["-" * n])
            self.assertEqual(greatest((1, None) * 2 ** (n - 1)), ["-" * n])


class Widened(unittest.TestCase):
    def test_from_the_left(self):
        self.assertEqual(widened((0, 1, 1, 1), "11"), "-1")
        self.assertEqual(widened((1, 1, 0, 1, 1, 0, 1, 1), "000"), "-00")
        self.assertEqual(widened((1, 1, 0, 1, 1, 0, 1, 1), "001"), "0-1")
        self.assertEqual(widened((None,) * 8, "010"), "---")
        self.assertEqual(widened((0, 1), "1"), "1")

    def test_each_good_term_of_many_functions(self):
        for function in many_functions():
            good = slow_good(function)
            for term in good:
                told = widened(function, term)
                self.assertEqual(told, slow_widened(good, term), (function, term))
                self.assertFalse(any(POINTS[told] < POINTS[other] for other in good), (function, term))

    def test_no_term_of_a_term_that_is_not_good(self):
        for function in all_functions(2) + some_functions(3, 60) + some_functions(4, 12):
            good = slow_good(function)
            for term in TERMS[switches(function)]:
                self.assertIs(refusal_of(widened, function, term), None if term in good else NoTerm, (function, term))


class Levels(unittest.TestCase):
    def test_written_out(self):
        self.assertEqual(levels((0, 1, None, 1)), [["01", "10", "11"], ["-1", "1-"]])
        self.assertEqual(levels((1, 1)), [["0", "1"], ["-"]])
        self.assertEqual(levels((0, 1)), [["1"]])

    def test_none_where_no_term_is_good(self):
        for n in range(1, 5):
            self.assertEqual(levels((0,) * 2 ** n), [])

    def test_of_many_functions(self):
        for function in many_functions():
            good = slow_good(function)
            told = levels(function)
            self.assertIs(type(told), list)
            widths = sorted({term.count("-") for term in good})
            self.assertEqual(widths, list(range(len(widths))))
            self.assertEqual(told, [[term for term in good if term.count("-") == width] for width in widths])

    def test_a_term_is_two_of_the_level_ahead(self):
        for function in many_functions():
            told = levels(function)
            for ahead, level in zip(told, told[1:]):
                for term in level:
                    at = term.index("-")
                    self.assertIn(term[:at] + "0" + term[at + 1:], ahead)
                    self.assertIn(term[:at] + "1" + term[at + 1:], ahead)


if __name__ == "__main__":
    unittest.main()
