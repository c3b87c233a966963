import itertools
import random
import unittest

from helpers import all_functions, many_functions, odd_lists, refusal_of, some_functions, things
from leastterms.errors import NoFunction, NoNumber, NoPoint
from leastterms.functions import frees_of, function_of, is_function, noughts_of, ones_of

WRONG_ANSWERS = [True, False, 2, -1, 10 ** 30 - 1, "", "0", "1", "-", 0.0, 1.0, (), [], {}, [0], (1,), b"0"]


class IsFunction(unittest.TestCase):
    def test_functions_of_one_to_four_switches(self):
        for function in all_functions(1) + all_functions(2) + some_functions(3, 60) + some_functions(4, 60):
            self.assertIs(is_function(function), True, function)

    def test_one_wrong_answer_anywhere(self):
        for n in range(1, 5):
            for function in some_functions(n, 4):
                for at in range(2 ** n):
                    for wrong in WRONG_ANSWERS:
                        thing = function[:at] + (wrong,) + function[at + 1:]
                        self.assertIs(is_function(thing), False, thing)

    def test_one_answer_more_or_fewer(self):
        for n in range(1, 5):
            for function in some_functions(n, 6):
                for thing in (function[1:], function[:-1], function + (0,), function + (None,), (1,) + function):
                    self.assertIs(is_function(thing), False, thing)

    def test_lengths(self):
        for many in range(70):
            self.assertIs(is_function((0,) * many), many in (2, 4, 8, 16), many)

    def test_a_list_or_a_text_for_the_tuple(self):
        for function in some_functions(1, 6) + some_functions(3, 6):
            for thing in (list(function), (function,), [function], str(function), dict(enumerate(function))):
                self.assertIs(is_function(thing), False, thing)

    def test_things_of_other_kinds(self):
        for thing in things() + odd_lists():
            self.assertIs(is_function(thing), False, thing)


class FunctionOf(unittest.TestCase):
    def test_the_function_of_two_lists_in_whatever_order(self):
        source = random.Random(13)
        for function in many_functions():
            ones = [point for point, answer in enumerate(function) if answer == 1]
            frees = [point for point, answer in enumerate(function) if answer is None]
            source.shuffle(ones)
            source.shuffle(frees)
            told = function_of(len(function).bit_length() - 1, ones, frees)
            self.assertEqual(told, function)
            self.assertIs(is_function(told), True)

    def test_small_ones_written_out(self):
        self.assertEqual(function_of(1, [], []), (0, 0))
        self.assertEqual(function_of(1, [1], [0]), (None, 1))
        self.assertEqual(function_of(2, [3, 0], [2]), (1, 0, None, 1))
        self.assertEqual(function_of(4, [15], [8, 0]), (None,) + (0,) * 7 + (None,) + (0,) * 6 + (1,))

    def test_each_order_of_the_points(self):
        for ones in itertools.permutations([7, 1, 4]):
            for frees in itertools.permutations([0, 6]):
                self.assertEqual(function_of(3, list(ones), list(frees)), (None, 1, 0, 0, 1, 0, None, 1))

    def test_no_number_ahead_of_all_else(self):
        for n in things() + odd_lists() + [[], [1], (1, 0), "1"]:
            for ones, frees in (([], []), ([0], [0]), ((0,), None), ([99], [True]), (n, n)):
                self.assertIs(refusal_of(function_of, n, ones, frees), NoNumber, n)

    def test_no_point_of_what_is_no_list_of_points(self):
        for n in range(1, 5):
            for wrong in things() + odd_lists() + [[2 ** n], [0, 2 ** n], [1, 1], [-1, 0], (0, 1), "01"]:
                self.assertIs(refusal_of(function_of, n, wrong, []), NoPoint, (n, wrong))
                self.assertIs(refusal_of(function_of, n, [], wrong), NoPoint, (n, wrong))
                self.assertIs(refusal_of(function_of, n, wrong, wrong), NoPoint, (n, wrong))

    def test_the_last_point_is_let_and_the_next_is_not(self):
        for n in range(1, 5):
            self.assertEqual(function_of(n, [2 ** n - 1], [])[-1], 1)
            self.assertIsNone(function_of(n, [], [2 ** n - 1])[-1])
            self.assertIs(refusal_of(function_of, n, [2 ** n], []), NoPoint)
            self.assertIs(refusal_of(function_of, n, [], [2 ** n]), NoPoint)

    def test_no_point_of_a_point_in_both(self):
        for n in range(1, 5):
            for point in range(2 ** n):
                self.assertIs(refusal_of(function_of, n, [point], [point]), NoPoint)
        self.assertIs(refusal_of(function_of, 3, [1, 2, 3], [4, 5, 3]), NoPoint)

    def test_one_empty_list_for_both(self):
        empty = []
        self.assertEqual(function_of(2, empty, empty), (0, 0, 0, 0))


class PointsByAnswer(unittest.TestCase):
    def test_rising_lists_of_points(self):
        for function in many_functions():
            for told, answer in ((ones_of, 1), (noughts_of, 0), (frees_of, None)):
                points = told(function)
                self.assertIs(type(points), list)
                self.assertEqual(points, [p for p in range(len(function)) if function[p] == answer])

    def test_no_function_of_what_is_none(self):
        for thing in things() + odd_lists() + [[0, 1], (0, 1, 2, 0), (0, True), "01"]:
            for told in (ones_of, noughts_of, frees_of):
                self.assertIs(refusal_of(told, thing), NoFunction, thing)


if __name__ == "__main__":
    unittest.main()
