import unittest

from helpers import (TERMS, all_functions, all_held, choices, crowded_functions, least_of, many_functions, odd_lists,
                     ones, read, refusal_of, signs, slow_forms, slow_good, slow_greatest, some_functions, switches,
                     things)
from leastterms.errors import NoFunction
from leastterms.forms import is_form, least_form, least_many, signs_of


class Refusals(unittest.TestCase):
    def test_no_function(self):
        for thing in things() + odd_lists() + [[0, 1], (0, 1, 2, 0), (0, True), "01"]:
            for told in (least_form, least_many):
                self.assertIs(refusal_of(told, thing), NoFunction, thing)
            for form in ((), ("1",), None, [], thing):
                self.assertIs(refusal_of(is_form, thing, form), NoFunction, thing)


class IsForm(unittest.TestCase):
    def test_each_choice_of_terms_of_one_and_of_two_switches(self):
        for n in (1, 2):
            picks = choices(TERMS[n])
            for function in all_functions(n):
                forms = set(slow_forms(function, slow_good(function)))
                for pick in picks:
                    self.assertIs(is_form(function, pick), pick in forms, (function, pick))

    def test_written_out(self):
        function = read("011-")
        self.assertIs(is_form(function, ("-1", "1-")), True)
        self.assertIs(is_form(function, ("01", "10")), True)
        self.assertIs(is_form(function, ("01", "10", "11")), True)
        self.assertIs(is_form(function, ("-1",)), False)
        self.assertIs(is_form(function, ("-1", "0-", "1-")), False)

    def test_no_term(self):
        for n in range(1, 5):
            for answers in ((0, 0), (None, None), (None, 0)):
                self.assertIs(is_form(answers * 2 ** (n - 1), ()), True)
            self.assertIs(is_form((0,) * (2 ** n - 1) + (1,), ()), False)

    def test_a_term_of_free_points_alone(self):
        self.assertIs(is_form((0, None), ("1",)), True)
        self.assertIs(is_form((0, None), ("0",)), False)

    def test_with_something_wrong(self):
        for function in some_functions(2, 30) + some_functions(3, 60) + some_functions(4, 40) + crowded_functions():
            n = switches(function)
            form = tuple(slow_greatest(function))
            self.assertIs(is_form(function, form), True)
            self.assertIs(is_form(function, list(form)), False)
            self.assertIs(is_form(function, " + ".join(form)), False)
            self.assertIs(is_form(function, dict.fromkeys(form)), False)
            self.assertIs(is_form(function, set(form)), False)
            for at, term in enumerate(form):
                short = form[:at] + form[at + 1:]
                self.assertIs(is_form(function, short), ones(function) <= all_held(short), (function, short))
                self.assertIs(is_form(function, form[:at] + (term,) + form[at:]), False)
                for wrong in (term + "-", term[1:], term.encode(), [term], (term,), None, 0, True, {}, "x" * n):
                    self.assertIs(is_form(function, form[:at] + (wrong,) + form[at + 1:]), False)
            if len(form) > 1:
                self.assertIs(is_form(function, form[::-1]), False)
                self.assertIs(is_form(function, form[1:] + form[:1]), False)
            for term in set(TERMS[n]) - set(slow_good(function)):
                self.assertIs(is_form(function, tuple(sorted(form + (term,)))), False)

    def test_terms_of_another_n(self):
        for n in range(1, 5):
            for other in range(1, 5):
                self.assertIs(is_form((1,) * 2 ** n, ("-" * other,)), n == other)
                self.assertIs(is_form((0,) * 2 ** n, ("-" * other,)), False)

    def test_of_anything(self):
        for function in ((0, 1), (1, 1, None, 0), read("01111110"), (1,) * 16, (0, 0, 0, 1)):
            for thing in things() + odd_lists():
                for wrong in (thing, (thing,), ("-" * switches(function), thing), [thing]):
                    self.assertIs(is_form(function, wrong), False, wrong)
        for thing in things():
            if thing != ():
                self.assertIs(is_form((0, 0), thing), False, thing)


class Signs(unittest.TestCase):
    def test_written_out(self):
        self.assertEqual(signs_of(()), 0)
        self.assertEqual(signs_of(("-",)), 0)
        self.assertEqual(signs_of(("-1", "00", "1-")), 4)
        self.assertEqual(signs_of(("--01", "1111")), 6)

    def test_of_many_forms(self):
        for function in many_functions():
            for form in (tuple(slow_good(function)), tuple(slow_greatest(function))):
                self.assertEqual(signs_of(form), signs(form))


class Least(unittest.TestCase):
    def check(self, function, forms):
        least, many = least_of(forms)
        self.assertIs(type(least_form(function)), tuple)
        self.assertEqual(least_form(function), least, function)
        self.assertEqual(least_many(function), many, function)
        self.assertIs(type(least_many(function)), int)

    def test_against_all_lists_of_good_terms(self):
        for n in (1, 2):
            for function in all_functions(n):
                self.check(function, slow_forms(function, slow_good(function)))

    def test_against_many_lists_of_good_terms_of_three_switches(self):
        for function in some_functions(3, 120):
            good = slow_good(function)
            if len(good) <= 12:
                self.check(function, slow_forms(function, good))

    def test_against_all_lists_of_greatest_terms(self):
        for function in all_functions(3)[::3] + some_functions(4, 240) + crowded_functions():
            self.check(function, slow_forms(function, slow_greatest(function)))

    def test_written_out(self):
        self.assertEqual(least_form((0, 1, 1, 1)), ("-1", "1-"))
        self.assertEqual(least_form(read("01111110")), ("-01", "01-", "1-0"))
        self.assertEqual(least_many(read("01111110")), 2)
        # Both terms hold the one 1, with as many signs.
        self.assertEqual((least_form(read("0--1")), least_many(read("0--1"))), (("-1",), 2))
        # Both hold it, one with fewer signs.
        self.assertEqual((least_form(read("0-0-0--1")), least_many(read("0-0-0--1"))), (("--1",), 1))
        self.assertEqual((least_form(read("00-0--1-")), least_many(read("00-0--1-"))), (("1--",), 1))

    def test_fewer_terms_go_ahead_of_fewer_signs(self):
        # One term of two signs holds both 1s, and so do two terms of one sign each.
        function = read("1----01-----0---")
        self.assertIs(is_form(function, ("--1-", "-0--")), True)
        self.assertEqual((least_form(function), least_many(function)), (("0--0",), 1))

    def test_no_one_and_no_nought(self):
        for n in range(1, 5):
            for answer in (0, None):
                self.assertEqual(least_form((answer,) * 2 ** n), ())
                self.assertEqual(least_many((answer,) * 2 ** n), 1)
            self.assertEqual(least_form((1,) * 2 ** n), ("-" * n,))
            self.assertEqual(least_form((1, None) * 2 ** (n - 1)), ("-" * n,))
            self.assertEqual(least_many((1, None) * 2 ** (n - 1)), 1)

    def test_the_odd_functions(self):
        for n in range(1, 5):
            odd = tuple(point.bit_count() % 2 for point in range(2 ** n))
            each = tuple(bin(point)[2:].zfill(n) for point in range(2 ** n) if odd[point])
            self.assertEqual((least_form(odd), least_many(odd)), (each, 1))


if __name__ == "__main__":
    unittest.main()
