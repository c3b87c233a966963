import itertools
import unittest

from helpers import (POINTS, TERMS, all_functions, choices, crowded_functions, deep, least_of, many_functions, odd_lists,
                     plain_functions, read, refusal_of, signs, slow_forms, slow_good, slow_greatest,
                     some_functions, switches, things)
from leastterms.errors import NoFunction, NoNumber, NoTerm
from leastterms.products import (function_of_product, function_of_sum, is_product, least_product, multiplied, opposite,
                                 shorter_side)

WITH_TERMS = (function_of_sum, function_of_product, multiplied)
OTHER = {"0": "1", "1": "0"}


def turned(function):
    return tuple({0: 1, 1: 0, None: None}[answer] for answer in function)


def clause_answers(clause, point):
    return 0 if point in POINTS[clause] else 1


def slow_is_product(function, clauses):
    """By the words of point 51, of a rising tuple of clauses."""
    for point, answer in enumerate(function):
        answers = [clause_answers(clause, point) for clause in clauses]
        if (answer == 1 and 0 in answers) or (answer == 0 and 0 not in answers):
            return False
    return True


def slow_products(function):
    return [pick for pick in choices(TERMS[switches(function)]) if slow_is_product(function, pick)]


def slow_multiplied(n, clauses):
    """By the words of point 54, all picks gone through."""
    told = set()
    for pick in itertools.product(*[[at for at in range(n) if clause[at] != "-"] for clause in clauses]):
        chosen = {(at, OTHER[clause[at]]) for clause, at in zip(clauses, pick)}
        by_switch = dict(chosen)
        if len(by_switch) == len(chosen):
            told.add("".join(by_switch.get(at, "-") for at in range(n)))
    return sorted(term for term in told if not any(POINTS[term] < POINTS[other] for other in told))


def some_tuples(n):
    """Rising tuples of terms of n, the same ones in each run."""
    terms = TERMS[n]
    told = [tuple(sorted({terms[(step * at + start) % len(terms)] for at in range(many)}))
            for many in range(7) for start in range(0, len(terms), 4) for step in (1, 2, 5, 7)]
    return sorted(set(told))


def no_tuples(n):
    """What is no rising tuple of unlike terms of n."""
    zero, one = "0" * n, "1" * n
    return [thing for thing in things() if thing not in ((), ("0", "1"))] + odd_lists() + [
        [zero], [], [zero, one], (one, zero), (zero, zero), (zero, one, one), (zero, "0" * (n + 1)), ("0" * (n - 1),),
        (zero, None), (None,), (0,), (zero, 1), (True,), ((zero,),), ([zero],), (zero.encode(),), {zero: one}, {zero},
        zero, zero + one, f"{zero} + {one}", ("x" * n,), (zero, one + " "), frozenset({zero}), iter([zero]),
        (zero, deep(lambda inner: [inner])), (deep(lambda inner: [inner]),), ({},),
    ]


class Refusals(unittest.TestCase):
    def test_no_function(self):
        for thing in things() + odd_lists() + [[0, 1], (0, 1, 2, 0), (0, True), "01"]:
            for told in (opposite, least_product, shorter_side):
                self.assertIs(refusal_of(told, thing), NoFunction, thing)
            for product in ((), ("1",), None, [], thing):
                self.assertIs(refusal_of(is_product, thing, product), NoFunction, thing)

    def test_no_number_ahead_of_no_term(self):
        for n in things() + odd_lists() + [(0, 1), "1", [], [1], 1.0, 4.0]:
            for told in WITH_TERMS:
                for terms in ((), ("0",), ["0"], None, n, ("00", "0")):
                    self.assertIs(refusal_of(told, n, terms), NoNumber, n)

    def test_no_term(self):
        for n in range(1, 5):
            for thing in no_tuples(n):
                for told in WITH_TERMS:
                    self.assertIs(refusal_of(told, n, thing), NoTerm, (n, thing))


class Opposite(unittest.TestCase):
    def test_written_out(self):
        self.assertEqual(opposite((0, 1, None, 1)), (1, 0, None, 0))
        self.assertEqual(opposite((None, 0)), (None, 1))

    def test_of_many_functions(self):
        for function in many_functions():
            told = opposite(function)
            self.assertEqual(told, turned(function))
            self.assertEqual({type(answer) for answer in told} - {int, type(None)}, set())
            self.assertEqual(opposite(told), function)


class IsProduct(unittest.TestCase):
    def test_each_choice_of_clauses_of_one_and_of_two_switches(self):
        for n in (1, 2):
            picks = choices(TERMS[n])
            for function in all_functions(n):
                for pick in picks:
                    self.assertIs(is_product(function, pick), slow_is_product(function, pick), (function, pick))

    def test_written_out(self):
        function = read("0-01")
        self.assertIs(is_product(function, ("-0",)), True)
        self.assertIs(is_product(function, ("-0", "0-")), True)
        self.assertIs(is_product(function, ("00", "10")), True)
        self.assertIs(is_product(function, ("0-",)), False)
        self.assertIs(is_product(function, ("-0", "-1")), False)
        self.assertIs(is_product(function, ("0-", "-0")), False)

    def test_no_clause(self):
        for n in range(1, 5):
            for answers in ((1, 1), (None, None), (None, 1)):
                self.assertIs(is_product(answers * 2 ** (n - 1), ()), True)
            self.assertIs(is_product((1,) * (2 ** n - 1) + (0,), ()), False)

    def test_with_something_wrong(self):
        for function in some_functions(2, 30) + some_functions(3, 60) + some_functions(4, 40):
            n = switches(function)
            product = tuple(slow_greatest(turned(function)))
            self.assertIs(is_product(function, product), True)
            self.assertIs(is_product(function, list(product)), False)
            for at, clause in enumerate(product):
                short = product[:at] + product[at + 1:]
                self.assertIs(is_product(function, short), slow_is_product(function, short))
                self.assertIs(is_product(function, product[:at] + (clause,) + product[at:]), False)
                for wrong in (clause + "-", clause[1:], clause.encode(), [clause], (clause,), None, 0, True, "x" * n):
                    self.assertIs(is_product(function, product[:at] + (wrong,) + product[at + 1:]), False)
            if len(product) > 1:
                self.assertIs(is_product(function, product[::-1]), False)
            for clause in set(TERMS[n]) - set(slow_good(turned(function))):
                self.assertIs(is_product(function, tuple(sorted(product + (clause,)))), False)

    def test_of_anything(self):
        for function in ((0, 1), (0, 0, None, 1), read("01111110"), (0,) * 16):
            for thing in things() + odd_lists():
                for wrong in (thing, (thing,), ("-" * switches(function), thing), [thing]):
                    self.assertIs(is_product(function, wrong), False, wrong)


class LeastProduct(unittest.TestCase):
    def test_against_all_lists_of_clauses(self):
        for n in (1, 2):
            for function in all_functions(n):
                told = least_product(function)
                self.assertIs(type(told), tuple)
                self.assertEqual(told, least_of(slow_products(function))[0], function)

    def test_against_all_lists_of_greatest_terms_of_the_opposite(self):
        for function in some_functions(3, 300) + some_functions(4, 100) + crowded_functions():
            forms = slow_forms(turned(function), slow_greatest(turned(function)))
            self.assertEqual(least_product(function), least_of(forms)[0], function)

    def test_written_out(self):
        self.assertEqual(least_product((0, 1, 1, 1)), ("00",))
        self.assertEqual(least_product((0, 0, 0, 1)), ("-0", "0-"))
        self.assertEqual(least_product((1, 1)), ())
        self.assertEqual(least_product((0, 0)), ("-",))
        self.assertEqual(least_product((None, 0)), ("-",))


class ShorterSide(unittest.TestCase):
    def test_written_out(self):
        self.assertEqual(shorter_side((0, 1, 1, 1)), ("products", ("00",)))
        self.assertEqual(shorter_side((0, 0, 0, 1)), ("sums", ("11",)))
        self.assertEqual(shorter_side((1, 1)), ("products", ()))
        self.assertEqual(shorter_side((0, 0)), ("sums", ()))
        # As many terms, and as many signs: sums.
        self.assertEqual(shorter_side((0, 1)), ("sums", ("1",)))
        self.assertEqual(shorter_side((0, 1, 1, 0)), ("sums", ("01", "10")))
        self.assertEqual(shorter_side((None, None)), ("sums", ()))
        # As many terms, and the signs decide.
        self.assertEqual(shorter_side(read("00000111")), ("products", ("-00", "0--")))
        self.assertEqual(shorter_side(read("00011111")), ("sums", ("-11", "1--")))

    def slow_side(self, function):
        sums = least_of(slow_forms(function, slow_greatest(function)))[0]
        products = least_of(slow_forms(turned(function), slow_greatest(turned(function))))[0]
        if (len(products), signs(products)) < (len(sums), signs(sums)):
            return ("products", products)
        return ("sums", sums)

    def test_of_many_functions(self):
        seen = set()
        for function in many_functions() + plain_functions(3) + crowded_functions():
            told = shorter_side(function)
            self.assertIs(type(told), tuple)
            self.assertEqual(told, self.slow_side(function), function)
            sums, products = least_of(slow_forms(function, slow_greatest(function)))[0], least_product(function)
            seen.add((told[0], len(sums) == len(products), signs(sums) == signs(products)))
        for kind in (("sums", True, True), ("sums", True, False), ("products", True, False), ("sums", False, False),
                     ("products", False, False), ("products", False, True), ("sums", False, True)):
            self.assertIn(kind, seen)


class SumAndProduct(unittest.TestCase):
    def test_written_out(self):
        self.assertEqual(function_of_sum(2, ("-1", "10")), (0, 1, 1, 1))
        self.assertEqual(function_of_product(2, ("-1", "10")), (1, 0, 0, 0))
        for n in range(1, 5):
            self.assertEqual(function_of_sum(n, ()), (0,) * 2 ** n)
            self.assertEqual(function_of_product(n, ()), (1,) * 2 ** n)
            self.assertEqual(function_of_sum(n, ("-" * n,)), (1,) * 2 ** n)
            self.assertEqual(function_of_product(n, ("-" * n,)), (0,) * 2 ** n)

    def test_of_many_tuples(self):
        for n in range(1, 5):
            for terms in some_tuples(n) + [tuple(TERMS[n])] + [(term,) for term in TERMS[n]]:
                held = [any(point in POINTS[term] for term in terms) for point in range(2 ** n)]
                for told, wanted in ((function_of_sum(n, terms), tuple(map(int, held))),
                                     (function_of_product(n, terms), tuple(1 - int(holds) for holds in held))):
                    self.assertEqual(told, wanted, terms)
                    self.assertEqual([type(told)] + [type(answer) for answer in told], [tuple] + [int] * 2 ** n)


class Multiplied(unittest.TestCase):
    def test_written_out(self):
        self.assertEqual(multiplied(2, ("00",)), ["-1", "1-"])
        self.assertEqual(multiplied(2, ("-0", "0-")), ["11"])
        self.assertEqual(multiplied(3, ("000", "111")), ["-01", "-10", "0-1", "01-", "1-0", "10-"])
        self.assertEqual(multiplied(1, ("0", "1")), [])
        self.assertEqual(multiplied(3, ("0-1",)), ["--0", "1--"])

    def test_no_clause_and_a_clause_of_no_sign(self):
        for n in range(1, 5):
            self.assertEqual(multiplied(n, ()), ["-" * n])
            self.assertEqual(multiplied(n, ("-" * n,)), [])
            self.assertEqual(multiplied(n, ("-" * n, "0" * n)), [])
            self.assertEqual(multiplied(n, tuple(TERMS[n])), [])

    def test_all_picks_of_few_clauses(self):
        for n in (1, 2):
            for clauses in choices(TERMS[n]):
                self.assertEqual(multiplied(n, clauses), slow_multiplied(n, clauses), clauses)
        for n in (3, 4):
            for clauses in some_tuples(n):
                told = multiplied(n, clauses)
                self.assertIs(type(told), list)
                self.assertEqual(told, slow_multiplied(n, clauses), clauses)

    def test_each_product_tells_the_greatest_terms(self):
        for n in (1, 2):
            for function in plain_functions(n):
                for product in slow_products(function):
                    self.assertEqual(multiplied(n, product), slow_greatest(function), (function, product))

    def test_many_clauses(self):
        four = [function for function in some_functions(4, 300) + crowded_functions() if None not in function]
        for function in plain_functions(3) + four:
            clauses = slow_good(turned(function))
            wanted = slow_greatest(function)
            for product in (clauses, slow_greatest(turned(function)), least_product(function),
                            [clause for clause in clauses if "-" not in clause]):
                self.assertEqual(multiplied(switches(function), tuple(product)), wanted, function)
        every = tuple(term for term in TERMS[4] if term != "----")
        for clauses in (every, every[::2], every[1::2], tuple(term for term in every if "1" not in term)):
            function = turned(tuple(int(any(point in POINTS[term] for term in clauses)) for point in range(16)))
            self.assertEqual(multiplied(4, clauses), slow_greatest(function))


if __name__ == "__main__":
    unittest.main()
