import itertools
import unittest

from helpers import (POINTS, TERMS, all_changes, all_functions, bits, crowded_functions, no_changes, odd_lists,
                     plain_functions, read, refusal_of, slow_changed, slow_greatest, some_functions, still, switches,
                     things)
from leastterms.changes import back, behind, changed, changed_term, is_change
from leastterms.errors import NoChange, NoFunction, NoNumber, NoTerm
from leastterms.greatest import greatest

NO_N = [True, False, None, 0, 5, -1, 10 ** 29, 1.0, 2.0, "1", "", (), (1,), [], [1], {}, b"1"]


class IsChange(unittest.TestCase):
    def test_no_number_ahead(self):
        for n in NO_N + odd_lists():
            for thing in (still(1), still(2), None, (), n):
                self.assertIs(refusal_of(is_change, n, thing), NoNumber, n)

    def test_each_change(self):
        for n in range(1, 5):
            told = all_changes(n)
            for change in told:
                for other in range(1, 5):
                    self.assertIs(is_change(other, change), n == other, change)

    def test_each_small_tuple(self):
        for n in (1, 2):
            changes = set(all_changes(n))
            pools = [list(itertools.product(range(-1, 3), repeat=many)) for many in range(4)]
            parts = [part for pool in pools for part in pool]
            for order, turns, answer in itertools.product(parts, parts, range(-1, 3)):
                told = is_change(n, (order, turns, answer))
                self.assertIs(told, (order, turns, answer) in changes, (order, turns, answer))

    def test_something_wrong(self):
        for n in range(1, 5):
            for thing in no_changes(n):
                self.assertIs(is_change(n, thing), False, (n, thing))


class Changed(unittest.TestCase):
    def test_refusals(self):
        for thing in things() + odd_lists() + [[0, 1], (0, 1, 2, 0), (0, True), "01"]:
            for change in (still(1), still(2), None, (), thing):
                self.assertIs(refusal_of(changed, thing, change), NoFunction, thing)
        for n in range(1, 5):
            for function in ((0,) * 2 ** n, (1,) * 2 ** n, (None, 1) * 2 ** (n - 1)):
                for thing in no_changes(n):
                    self.assertIs(refusal_of(changed, function, thing), NoChange, thing)

    def test_point_by_point(self):
        for n in (1, 2):
            for function in all_functions(n):
                for change in all_changes(n):
                    self.assertEqual(changed(function, change), slow_changed(function, change), (function, change))
        for function in some_functions(3, 30):
            for change in all_changes(3):
                self.assertEqual(changed(function, change), slow_changed(function, change), (function, change))
        for function in some_functions(4, 8)[3:] + crowded_functions()[:4]:
            for change in all_changes(4)[::7]:
                self.assertEqual(changed(function, change), slow_changed(function, change), (function, change))

    def test_written_out(self):
        function = read("01-10010")
        self.assertEqual(changed(function, still(3)), function)
        self.assertEqual(changed(function, ((0, 1, 2), (0, 0, 0), 1)), read("10-01101"))
        self.assertEqual(changed(function, ((0, 1, 2), (0, 0, 1), 0)), read("101-0001"))
        self.assertEqual(changed(function, ((0, 1, 2), (1, 0, 0), 0)), read("001001-1"))
        # The answer at the bits a, b, c is that of the function at the bits b, c, a.
        self.assertEqual(changed(function, ((2, 0, 1), (0, 0, 0), 0)), read("0-011100"))
        # At a, b, c that at the bits of b turned, c, a.
        self.assertEqual(changed(function, ((2, 0, 1), (0, 1, 0), 0)), read("010-0011"))
        self.assertEqual(changed((0, 1), ((0,), (1,), 0)), (1, 0))
        self.assertEqual(changed((None, 1), ((0,), (1,), 1)), (0, None))

    def test_it_is_a_tuple_of_whole_numbers(self):
        for function in some_functions(3, 12):
            for change in all_changes(3):
                told = changed(function, change)
                self.assertIs(type(told), tuple)
                self.assertTrue(all(type(answer) in (int, type(None)) for answer in told))


class ChangedTerm(unittest.TestCase):
    def test_refusals(self):
        for n in NO_N + odd_lists():
            for term in ("0", "01", None, n):
                for change in (still(1), None, n):
                    self.assertIs(refusal_of(changed_term, n, term, change), NoNumber, n)
        for n in range(1, 5):
            wrong = things() + odd_lists() + [["0"] * n, ("0",) * n, "x" * n, "-" * (n + 1), "-" * (n - 1), " " * n]
            for term in wrong:
                if term == "-" * n:
                    continue
                for change in (still(n), still(5 - n), None, (), term):
                    self.assertIs(refusal_of(changed_term, n, term, change), NoTerm, term)
            for term in ("-" * n, "0" * n, "1" * n):
                for thing in no_changes(n):
                    self.assertIs(refusal_of(changed_term, n, term, thing), NoChange, thing)

    def test_it_holds_the_points_whose_old_ones_the_term_holds(self):
        for n in range(1, 5):
            for order, turns, answer in all_changes(n)[:: 1 if n < 4 else 11]:
                # The bit of the old point at switch order[k] is that of the point at k, turned or not.
                olds = [int("".join(str((int(bits(n, point)[order.index(k)]) + turns[order.index(k)]) % 2)
                                    for k in range(n)), 2) for point in range(2 ** n)]
                for term in TERMS[n]:
                    told = changed_term(n, term, (order, turns, answer))
                    self.assertEqual(POINTS[told], {point for point, old in enumerate(olds) if old in POINTS[term]})

    def test_sign_by_sign(self):
        for n in range(1, 5):
            for order, turns, answer in all_changes(n)[:: 1 if n < 4 else 5]:
                for term in TERMS[n][:: 1 if n < 4 else 4]:
                    wanted = "".join({"-": "--", "0": "01", "1": "10"}[term[order[k]]][turns[k]] for k in range(n))
                    self.assertEqual(changed_term(n, term, (order, turns, answer)), wanted)

    def test_written_out(self):
        self.assertEqual(changed_term(3, "01-", still(3)), "01-")
        self.assertEqual(changed_term(3, "01-", ((2, 0, 1), (0, 0, 0), 0)), "-01")
        self.assertEqual(changed_term(3, "01-", ((2, 0, 1), (1, 1, 0), 1)), "-11")
        self.assertEqual(changed_term(1, "0", ((0,), (1,), 0)), "1")
        self.assertEqual(changed_term(1, "-", ((0,), (1,), 1)), "-")

    def test_the_terms_of_the_changed_function(self):
        for function in some_functions(2, 20) + some_functions(3, 20):
            n = switches(function)
            for change in all_changes(n):
                if change[2] == 0:
                    moved = sorted(changed_term(n, term, change) for term in slow_greatest(function))
                    self.assertEqual(greatest(changed(function, change)), moved, (function, change))


class BehindAndBack(unittest.TestCase):
    def test_refusals(self):
        for n in NO_N + odd_lists():
            for one in (still(1), None, n):
                self.assertIs(refusal_of(behind, n, one, one), NoNumber, n)
                self.assertIs(refusal_of(behind, n, one, None), NoNumber, n)
                self.assertIs(refusal_of(back, n, one), NoNumber, n)
        for n in range(1, 5):
            for thing in no_changes(n):
                self.assertIs(refusal_of(back, n, thing), NoChange, thing)
                self.assertIs(refusal_of(behind, n, thing, still(n)), NoChange, thing)
                self.assertIs(refusal_of(behind, n, still(n), thing), NoChange, thing)
                self.assertIs(refusal_of(behind, n, thing, thing), NoChange, thing)

    def telling(self, n):
        """Functions by which unlike changes are told apart."""
        return plain_functions(n) if n < 3 else some_functions(n, 6)[3:] + [(1,) + (0,) * (2 ** n - 2) + (None,)]

    def check_pair(self, n, one, other, functions):
        both = behind(n, one, other)
        self.assertIn(both, self.changes[n], (one, other))
        for function, first in functions:
            self.assertEqual(changed(function, both), changed(first, other), (function, one, other))

    def setUp(self):
        self.changes = {n: set(all_changes(n)) for n in range(1, 5)}

    def test_the_one_and_the_other_behind_it(self):
        for n in (1, 2, 3):
            for one in all_changes(n):
                done = [(function, changed(function, one)) for function in self.telling(n)[:4 if n == 3 else None]]
                for other in all_changes(n):
                    self.check_pair(n, one, other, done)
        for one in all_changes(4)[::23]:
            done = [(function, changed(function, one)) for function in self.telling(4)]
            for other in all_changes(4)[::29]:
                self.check_pair(4, one, other, done)

    def test_the_one_that_leads_back(self):
        for n in range(1, 5):
            for change in all_changes(n)[:: 1 if n < 4 else 3]:
                told = back(n, change)
                self.assertIn(told, self.changes[n])
                self.assertEqual(behind(n, change, told), still(n))
                self.assertEqual(behind(n, told, change), still(n))
                self.assertEqual(back(n, told), change)
                for function in self.telling(n):
                    self.assertEqual(changed(changed(function, change), told), function)

    def test_terms_go_along(self):
        for n in (1, 2, 3):
            for one, other in itertools.product(all_changes(n)[::5], all_changes(n)[::3]):
                for term in TERMS[n]:
                    both = changed_term(n, changed_term(n, term, one), other)
                    self.assertEqual(changed_term(n, term, behind(n, one, other)), both)

    def test_written_out(self):
        one, other = ((1, 2, 0), (1, 0, 0), 1), ((0, 2, 1), (0, 0, 1), 1)
        self.assertEqual(behind(3, one, other), ((1, 0, 2), (1, 0, 1), 0))
        self.assertEqual(behind(3, other, one), ((2, 1, 0), (1, 1, 0), 0))
        self.assertEqual(back(3, one), ((2, 0, 1), (0, 1, 0), 1))

    def test_whole_numbers_and_tuples(self):
        for told in (behind(2, ((1, 0), (1, 0), 1), ((1, 0), (1, 1), 1)), back(2, ((1, 0), (1, 0), 1))):
            self.assertIs(type(told), tuple)
            self.assertTrue(all(type(number) is int for number in told[0] + told[1] + told[2:]))


if __name__ == "__main__":
    unittest.main()
