"""Point 3: what is handed in stays as it was, and what is told is the asker's own."""

import copy
import unittest

from helpers import TERMS, many_functions, odd_lists, refusal_of, slow_good, switches
from leastterms.functions import frees_of, function_of, noughts_of, ones_of
from leastterms.greatest import good_terms, greatest, levels, widened
from leastterms.terms import points_of

OF_A_FUNCTION = (ones_of, noughts_of, frees_of, good_terms, greatest, levels)


def lists_in(told):
    found = [told]
    for inner in told:
        if isinstance(inner, list):
            found.extend(lists_in(inner))
    return found


def spoil(told):
    for inner in lists_in(told):
        inner.append("spoiled")
        inner.reverse()
    told.clear()


class OwnAnswers(unittest.TestCase):
    def test_a_told_list_can_be_changed(self):
        for function in many_functions():
            for ask in OF_A_FUNCTION:
                told = ask(function)
                kept = copy.deepcopy(told)
                spoil(told)
                self.assertEqual(ask(function), kept)

    def test_the_points_of_a_term_can_be_changed(self):
        for n in range(1, 5):
            for term in TERMS[n]:
                told = points_of(term)
                kept = list(told)
                spoil(told)
                self.assertEqual(points_of(term), kept)

    def test_no_two_lists_are_one(self):
        for function in many_functions():
            for ask in OF_A_FUNCTION:
                found = lists_in(ask(function)) + lists_in(ask(function))
                self.assertEqual(len({id(one) for one in found}), len(found))

    def test_the_lists_of_points_stay_as_they_were(self):
        ones, frees = [6, 1, 3], [0, 5]
        told = function_of(3, ones, frees)
        self.assertEqual((ones, frees), ([6, 1, 3], [0, 5]))
        ones.append(2)
        frees.clear()
        self.assertEqual(told, (None, 1, 0, 1, 0, None, 1, 0))
        self.assertEqual(function_of(3, [6, 1, 3], [0, 5]), told)

    def test_what_is_refused_stays_as_it_was(self):
        for wrong in odd_lists() + [[0, 1, 2, 2], [3, 2, 1, 0, 99]]:
            kept = copy.deepcopy(wrong)
            for handed in ((3, wrong, []), (3, [], wrong), (wrong, wrong, wrong)):
                self.assertIsNotNone(refusal_of(function_of, *handed))
            for ask in OF_A_FUNCTION:
                self.assertIsNotNone(refusal_of(ask, wrong))
            self.assertIsNotNone(refusal_of(widened, (1, 1), wrong))
            self.assertEqual(wrong, kept)

    def test_the_same_question_has_the_same_answer(self):
        for function in many_functions():
            for term in slow_good(function)[:8]:
                self.assertEqual(widened(function, term), widened(function, term))
            ones, frees = ones_of(function), frees_of(function)
            again = [function_of(switches(function), ones, frees) for _ in range(2)]
            self.assertEqual(again, [function, function])


if __name__ == "__main__":
    unittest.main()
