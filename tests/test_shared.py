import itertools
import unittest

from helpers import (TERMS, all_functions, choices, good_numbers, no_groups, odd_lists, plain_functions, read,
                     refusal_of, signs, slow_broad, slow_is_shared, slow_least_length, some_groups, switches, things)
from leastterms.errors import NoFunction
from leastterms.forms import least_form
from leastterms.shared import broad_terms, is_shared, least_shared


class Refusals(unittest.TestCase):
    def test_no_functions_together(self):
        for thing in no_groups():
            self.assertIs(refusal_of(broad_terms, thing), NoFunction, thing)
            self.assertIs(refusal_of(least_shared, thing), NoFunction, thing)
            for form in ((), ("1",), None, thing):
                self.assertIs(refusal_of(is_shared, thing, form), NoFunction, thing)

    def test_each_number_of_functions_and_switches(self):
        for n in (1, 2, 3):
            for answer in (0, 1, None):
                for many in (2, 3):
                    functions = ((answer,) * 2 ** n,) * many
                    self.assertIsNone(refusal_of(broad_terms, functions))
                    self.assertIsNone(refusal_of(least_shared, functions))
                    self.assertIsNone(refusal_of(is_shared, functions, None))


class IsShared(unittest.TestCase):
    def test_each_choice_of_terms(self):
        for n, groups in ((1, list(itertools.product(all_functions(1), repeat=2)) + some_groups(1, 12)),
                          (2, some_groups(2, 12))):
            picks = choices(TERMS[n])
            for functions in groups:
                for pick in picks:
                    self.assertIs(is_shared(functions, pick), slow_is_shared(functions, pick), (functions, pick))

    def test_written_out(self):
        functions = (read("0111"), read("0001"))
        for pick in (("-1", "1-", "11"), ("01", "1-", "11"), ("01", "10", "11"), ("-1", "10", "11")):
            self.assertIs(is_shared(functions, pick), True, pick)
        for pick in (("-1", "1-"), ("11",), (), ("-1", "10"), ("-1", "0-", "1-", "11"), ("--",), ("01", "10")):
            self.assertIs(is_shared(functions, pick), False, pick)
        # A term that is good for another function alone holds nothing for this one.
        self.assertIs(is_shared((read("1100"), read("1010")), ("-0", "0-")), True)
        self.assertIs(is_shared((read("1100"), read("1110")), ("-0", "0-")), True)
        self.assertIs(is_shared((read("1110"), read("1110")), ("-0", "0-")), True)
        self.assertIs(is_shared((read("1100"), read("1010"), read("0110")), ("-0", "0-")), False)
        self.assertIs(is_shared((read("1000"), read("1100")), ("0-",)), False)

    def test_no_one(self):
        for n in (1, 2, 3):
            for one, other in itertools.product(((0,) * 2 ** n, (None,) * 2 ** n, (0, None) * 2 ** (n - 1)), repeat=2):
                self.assertIs(is_shared((one, other), ()), True)
                self.assertIs(is_shared((one, other, one), ()), True)
                for third in ((1,) * 2 ** n, (0,) * (2 ** n - 1) + (1,)):
                    self.assertIs(is_shared((one, other, third), ()), False)

    def test_a_term_of_free_points_alone(self):
        self.assertIs(is_shared(((0, None), (0, 0)), ("1",)), True)
        self.assertIs(is_shared(((0, 0), (0, None)), ("1",)), True)
        self.assertIs(is_shared(((0, 0), (0, None)), ("0",)), False)
        self.assertIs(is_shared(((0, 0), (0, None)), ("-",)), False)

    def test_with_something_wrong(self):
        for functions in some_groups(2, 20) + some_groups(3, 30):
            n = switches(functions[0])
            form = tuple(slow_broad(functions))
            self.assertIs(is_shared(functions, form), True)
            for wrong in (list(form), " + ".join(form) + " ", dict.fromkeys(form), set(form), (form,), form + ((),)):
                self.assertIs(is_shared(functions, wrong), False, wrong)
            for at, term in enumerate(form):
                short = form[:at] + form[at + 1:]
                self.assertIs(is_shared(functions, short), slow_is_shared(functions, short), (functions, short))
                self.assertIs(is_shared(functions, form[:at] + (term,) + form[at:]), False)
                for wrong in (term + "-", term[1:], term.encode(), [term], (term,), None, 0, True, {}, "x" * n):
                    self.assertIs(is_shared(functions, form[:at] + (wrong,) + form[at + 1:]), False)
            if len(form) > 1:
                self.assertIs(is_shared(functions, form[::-1]), False)
                self.assertIs(is_shared(functions, form[1:] + form[:1]), False)
            for term in TERMS[n]:
                more = tuple(sorted(set(form + (term,))))
                self.assertIs(is_shared(functions, more), bool(good_numbers(functions, term)), (functions, more))

    def test_terms_of_another_n(self):
        for n in (1, 2, 3):
            for other in range(1, 5):
                self.assertIs(is_shared(((1,) * 2 ** n,) * 2, ("-" * other,)), n == other)
                self.assertIs(is_shared(((0,) * 2 ** n,) * 2, ("-" * other,)), False)

    def test_of_anything(self):
        for functions in (((0, 1), (0, None)), (read("0110"),) * 3, (read("01111110"), (1,) * 8)):
            for thing in things() + odd_lists():
                for wrong in (thing, (thing,), ("-" * switches(functions[0]), thing), [thing]):
                    self.assertIs(is_shared(functions, wrong), False, wrong)
        for thing in things() + odd_lists():
            if thing != ():
                self.assertIs(is_shared(((0, 0), (0, None)), thing), False, thing)


class Broad(unittest.TestCase):
    def check(self, functions):
        told = broad_terms(functions)
        self.assertIs(type(told), list)
        self.assertEqual(told, slow_broad(functions), functions)

    def test_against_all_terms(self):
        for functions in itertools.product(all_functions(1), repeat=2):
            self.check(functions)
        for functions in itertools.product(all_functions(1), repeat=3):
            self.check(functions)
        for functions in list(itertools.product(all_functions(2), repeat=2))[::5]:
            self.check(functions)
        for functions in some_groups(2, 120) + some_groups(3, 200):
            self.check(functions)

    def test_written_out(self):
        self.assertEqual(broad_terms((read("0111"), read("0001"))), ["-1", "1-", "11"])
        self.assertEqual(broad_terms((read("0111"), read("0111"))), ["-1", "1-"])
        self.assertEqual(broad_terms((read("0000"), read("0000"))), [])
        # What holds free points alone is broad, too.
        self.assertEqual(broad_terms((read("0000"), read("00--"))), ["1-"])
        self.assertEqual(broad_terms((read("1100"), read("1010"), read("1000"))), ["-0", "0-", "00"])


class Least(unittest.TestCase):
    def check(self, functions, terms):
        told = least_shared(functions)
        self.assertIs(type(told), tuple)
        self.assertTrue(slow_is_shared(functions, told), functions)
        self.assertEqual(told, tuple(sorted(set(told))))
        self.assertIs(is_shared(functions, told), True)
        self.assertEqual((len(told), signs(told)), slow_least_length(functions, terms), functions)
        self.assertTrue(set(told) <= set(slow_broad(functions)), functions)
        self.assertEqual(least_shared(functions), told)

    def test_against_all_lists_of_terms(self):
        for functions in list(itertools.product(all_functions(1), repeat=2)):
            self.check(functions, TERMS[1])
        for functions in some_groups(1, 40):
            self.check(functions, TERMS[1])
        for functions in some_groups(2, 90) + list(itertools.product(plain_functions(2), repeat=2))[::3]:
            self.check(functions, TERMS[2])

    def test_against_all_lists_of_broad_terms(self):
        for functions in list(itertools.product(all_functions(2), repeat=2))[::7] + some_groups(3, 150):
            self.check(functions, slow_broad(functions))

    def test_written_out(self):
        self.assertEqual(least_shared((read("0111"), read("0001"))), ("-1", "1-", "11"))
        # Each wants two terms by itself; together three terms do.
        self.assertEqual(least_shared((read("10000001"), read("01000001"))), ("000", "001", "111"))
        self.assertEqual(least_shared(((0, 0), (None, 0), (0, None))), ())
        self.assertEqual(least_shared(((1, 1), (0, 0))), ("-",))
        # As many terms, but "1-" and "11" have fewer signs than "10" and "11".
        self.assertEqual(least_shared((read("0011"), read("0001"))), ("1-", "11"))


class Bounds(unittest.TestCase):
    def test_between_each_and_all_together(self):
        for functions in some_groups(1, 60) + some_groups(2, 300) + some_groups(3, 500):
            lengths = [len(least_form(function)) for function in functions]
            told = len(least_shared(functions))
            self.assertLessEqual(told, sum(lengths), functions)
            self.assertGreaterEqual(told, max(lengths), functions)

    def test_like_functions(self):
        for function in all_functions(1) + all_functions(2) + all_functions(3)[::23]:
            alone = least_form(function)
            for many in (2, 3):
                told = least_shared((function,) * many)
                self.assertEqual((len(told), signs(told)), (len(alone), signs(alone)), function)

    def test_sharing_spares_terms(self):
        functions = (read("00110101"), read("01010110"), read("00111001"))
        self.assertLess(len(least_shared(functions)), sum(len(least_form(function)) for function in functions))


if __name__ == "__main__":
    unittest.main()
