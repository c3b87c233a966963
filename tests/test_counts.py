import unittest

from helpers import least_of, odd_lists, plain_functions, refusal_of, slow_forms, slow_greatest, things
from leastterms.counts import by_greatest, by_least, most_greatest, most_least, odd_function
from leastterms.errors import NoNumber
from leastterms.forms import least_form
from leastterms.greatest import greatest
from leastterms.needs import needed

NO_N = [True, False, None, 0, -1, 5, 10 ** 29, 1.0, 2.0, "1", "", (), (1,), [], [1], {}, {1: 1}, b"1", (0, 1)]


def slow_least(function):
    return len(least_of(slow_forms(function, slow_greatest(function)))[0])


def slow_counts(numbers):
    told = [0] * (max(numbers) + 1)
    for number in numbers:
        told[number] += 1
    return told


class Refusals(unittest.TestCase):
    def test_no_number(self):
        for n in NO_N + things() + odd_lists():
            for ask in (by_greatest, by_least, most_greatest, most_least, odd_function):
                self.assertIs(refusal_of(ask, n), NoNumber, (ask, n))
        for ask in (by_greatest, by_least, most_greatest, most_least):
            self.assertIs(refusal_of(ask, 4), NoNumber, ask)


class Counts(unittest.TestCase):
    def test_against_all_functions(self):
        for n in (1, 2, 3):
            functions = plain_functions(n)
            by_terms = [len(slow_greatest(function)) for function in functions]
            by_form = [slow_least(function) for function in functions]
            self.assertEqual(by_greatest(n), slow_counts(by_terms))
            self.assertEqual(by_least(n), slow_counts(by_form))
            # The functions rise, so that the first place is that of the first function.
            self.assertEqual(functions, sorted(functions))
            self.assertEqual(most_greatest(n), functions[by_terms.index(max(by_terms))])
            self.assertEqual(most_least(n), functions[by_form.index(max(by_form))])

    def test_written_out(self):
        self.assertEqual((by_greatest(1), by_least(1)), ([1, 3], [1, 3]))
        self.assertEqual((by_greatest(2), by_least(2)), ([1, 9, 6], [1, 9, 6]))
        self.assertEqual(by_greatest(3), [1, 27, 106, 84, 34, 0, 4])
        self.assertEqual(by_least(3), [1, 27, 130, 88, 10])
        self.assertEqual([most_greatest(n) for n in (1, 2, 3)], [(0, 1), (0, 1, 1, 0), (0, 1, 1, 1, 1, 1, 1, 0)])
        self.assertEqual([most_least(n) for n in (1, 2, 3)], [(0, 1), (0, 1, 1, 0), (0, 1, 1, 0, 1, 0, 0, 1)])

    def test_each_function_is_counted_once(self):
        for n in (1, 2, 3):
            for told in (by_greatest(n), by_least(n)):
                self.assertIs(type(told), list)
                self.assertTrue(all(type(many) is int and many >= 0 for many in told))
                self.assertEqual(sum(told), 2 ** 2 ** n)
                self.assertGreater(told[-1], 0)

    def test_the_lists_are_the_askers_own(self):
        for n in (1, 2, 3):
            for ask in (by_greatest, by_least):
                told = ask(n)
                kept = list(told)
                self.assertIsNot(ask(n), told)
                told.clear()
                self.assertEqual(ask(n), kept)


class Odd(unittest.TestCase):
    def test_point_by_point(self):
        for n in range(1, 5):
            self.assertEqual(odd_function(n), tuple(bin(point).count("1") % 2 for point in range(2 ** n)))
            self.assertIs(type(odd_function(n)), tuple)
            self.assertTrue(all(type(answer) is int for answer in odd_function(n)))

    def test_each_one_is_a_needed_term(self):
        for n in range(1, 5):
            told = odd_function(n)
            each = [bin(point)[2:].zfill(n) for point in range(2 ** n) if told[point] == 1]
            self.assertEqual(greatest(told), each)
            self.assertEqual(needed(told), each)
            self.assertEqual(least_form(told), tuple(each))


if __name__ == "__main__":
    unittest.main()
