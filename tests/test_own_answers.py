"""Point 3: what is handed in stays as it was, and what is told is the asker's own."""

import copy
import unittest

from helpers import (TERMS, crowded_functions, many_functions, odd_lists, refusal_of, slow_good, some_groups, switches,
                     things)
from leastterms.changes import back, behind, changed, changed_term, is_change
from leastterms.counts import by_greatest, by_least, most_greatest, most_least, odd_function
from leastterms.forms import is_form, least_form, least_many
from leastterms.functions import frees_of, function_of, is_function, noughts_of, ones_of
from leastterms.greatest import good_terms, greatest, levels, widened
from leastterms.needs import needed, sole_points, swept
from leastterms.papers import paper_for, paper_shows
from leastterms.products import (function_of_product, function_of_sum, is_product, least_product, multiplied, opposite,
                                 shorter_side)
from leastterms.shared import broad_terms, is_shared, least_shared
from leastterms.sharedpapers import shared_paper, shared_shows
from leastterms.terms import is_term, points_of

OF_A_FUNCTION = (ones_of, noughts_of, frees_of, good_terms, greatest, levels, sole_points, needed)
TUPLES_OF_A_FUNCTION = (swept, least_form, opposite, least_product, shorter_side, lambda function: (
    least_many(function), paper_for(function, 0), paper_for(function, 1), paper_for(function, 3)))
OF_TERMS = (function_of_sum, function_of_product, multiplied)
TUPLES_OF_FUNCTIONS = (least_shared, lambda functions: (
    shared_paper(functions, 0), shared_paper(functions, 1), shared_paper(functions, 3)))
LISTS_OF_A_NUMBER = (by_greatest, by_least)
TUPLES_OF_A_NUMBER = (most_greatest, most_least, odd_function)
CHANGES = (((1, 0), (0, 1), 1), ((0, 1), (1, 1), 0), ((1, 0), (0, 0), 0))


def lists_in(told):
    found = [told]
    for inner in told:
        if isinstance(inner, list):
            found.extend(lists_in(inner))
    return found


def spoil(told):
    for inner in lists_in(told):
        inner.append("spoiled")
        inner.reverse()
    told.clear()


def is_of_tuples_alone(told):
    if isinstance(told, tuple):
        return all(is_of_tuples_alone(inner) for inner in told)
    return told is None or isinstance(told, (int, str))


def lists_and_more():
    """Things in which something could be changed."""
    return [thing for thing in things() if isinstance(thing, (list, dict, tuple))] + odd_lists() + [
        ["-1", "1-"], ("-1", ["1-"]), ["apart", [1, 2]], ("apart", [2, 1]), ("cases", 1, [["apart", [2]]]),
        ("cases", 1, (["apart", (2,)],)), {"apart": [2, 1]}, ["1", "0"], [0, 1, 1, 0],
        ("apart", [(0, 2), (0, 1)]), ("apart", ([0, 1], [0, 2])), ("cases", [0, 1], [["apart", [[0, 2]]]]),
        ("cases", (0, 1), [("apart", ((0, 2),))]), [(1, 0), (0, 0), 1], ([1, 0], (0, 0), 1), ((1, 0), [0, 0], 1),
        ((1, 0), (0, 0), [1]), [[0, 1], [1, 0]], ([0, 1], [1, 0]),
    ]


class OwnAnswers(unittest.TestCase):
    def test_a_told_list_can_be_changed(self):
        for function in many_functions():
            for ask in OF_A_FUNCTION:
                told = ask(function)
                kept = copy.deepcopy(told)
                spoil(told)
                self.assertEqual(ask(function), kept)

    def test_the_points_of_a_term_can_be_changed(self):
        for n in range(1, 5):
            for term in TERMS[n]:
                told = points_of(term)
                kept = list(told)
                spoil(told)
                self.assertEqual(points_of(term), kept)

    def test_no_two_lists_are_one(self):
        for function in many_functions():
            for ask in OF_A_FUNCTION:
                found = lists_in(ask(function)) + lists_in(ask(function))
                self.assertEqual(len({id(one) for one in found}), len(found))

    def test_the_lists_of_points_stay_as_they_were(self):
        ones, frees = [6, 1, 3], [0, 5]
        told = function_of(3, ones, frees)
        self.assertEqual((ones, frees), ([6, 1, 3], [0, 5]))
        ones.append(2)
        frees.clear()
        self.assertEqual(told, (None, 1, 0, 1, 0, None, 1, 0))
        self.assertEqual(function_of(3, [6, 1, 3], [0, 5]), told)

    def test_what_is_refused_stays_as_it_was(self):
        for wrong in odd_lists() + [[0, 1, 2, 2], [3, 2, 1, 0, 99]]:
            kept = copy.deepcopy(wrong)
            for handed in ((3, wrong, []), (3, [], wrong), (wrong, wrong, wrong)):
                self.assertIsNotNone(refusal_of(function_of, *handed))
            for ask in OF_A_FUNCTION:
                self.assertIsNotNone(refusal_of(ask, wrong))
            self.assertIsNotNone(refusal_of(widened, (1, 1), wrong))
            self.assertIsNotNone(refusal_of(paper_for, (1, 1), wrong))
            for ask in OF_TERMS:
                self.assertIsNotNone(refusal_of(ask, 2, wrong))
                self.assertIsNotNone(refusal_of(ask, wrong, wrong))
            for ask in TUPLES_OF_FUNCTIONS + (broad_terms,) + LISTS_OF_A_NUMBER + TUPLES_OF_A_NUMBER:
                self.assertIsNotNone(refusal_of(ask, wrong))
            self.assertIsNotNone(refusal_of(broad_terms, ((0, 1), wrong)))
            self.assertIsNotNone(refusal_of(shared_paper, ((0, 1), (1, 1)), wrong))
            self.assertIsNotNone(refusal_of(changed, (0, 1), (wrong, (0,), 0)))
            self.assertIsNotNone(refusal_of(changed_term, 2, "01", (wrong, wrong, wrong)))
            self.assertIsNotNone(refusal_of(behind, 2, CHANGES[0], wrong))
            self.assertIsNotNone(refusal_of(back, 2, wrong))
            self.assertEqual(wrong, kept)

    def test_what_is_asked_of_anything_stays_as_it_was(self):
        for thing in lists_and_more():
            kept = copy.deepcopy(thing)
            for function in ((0, 1, 1, 0), (0, 0), (1, 1, 1, 1)):
                is_form(function, thing)
                is_product(function, thing)
                paper_shows(function, 1, thing)
                is_shared((function, function), thing)
                shared_shows((function, function), 1, thing)
            is_function(thing)
            is_term(2, thing)
            is_change(2, thing)
            self.assertEqual(repr(thing), repr(kept))

    def test_a_told_list_of_multiplied_clauses_can_be_changed(self):
        for clauses in ((), ("00",), ("-0", "0-"), ("--",), tuple(TERMS[2])):
            told = multiplied(2, clauses)
            kept = list(told)
            self.assertIsNot(multiplied(2, clauses), told)
            spoil(told)
            self.assertEqual(multiplied(2, clauses), kept)

    def test_what_is_told_as_a_tuple_has_no_list_in_it(self):
        for function in many_functions() + crowded_functions():
            for ask in TUPLES_OF_A_FUNCTION:
                told = ask(function)
                self.assertTrue(is_of_tuples_alone(told), told)
                self.assertEqual(ask(function), told)

    def test_told_broad_terms_can_be_changed(self):
        for functions in some_groups(1, 20) + some_groups(2, 40) + some_groups(3, 40):
            told = broad_terms(functions)
            kept = list(told)
            self.assertIsNot(broad_terms(functions), told)
            spoil(told)
            self.assertEqual(broad_terms(functions), kept)

    def test_what_is_told_of_functions_together_has_no_list_in_it(self):
        for functions in some_groups(1, 20) + some_groups(2, 40) + some_groups(3, 40):
            for ask in TUPLES_OF_FUNCTIONS:
                told = ask(functions)
                self.assertTrue(is_of_tuples_alone(told), told)
                self.assertEqual(ask(functions), told)

    def test_what_is_told_of_a_number(self):
        for n in (1, 2, 3):
            for ask in LISTS_OF_A_NUMBER:
                told = ask(n)
                kept = list(told)
                spoil(told)
                self.assertEqual(ask(n), kept)
            for ask in TUPLES_OF_A_NUMBER:
                self.assertTrue(is_of_tuples_alone(ask(n)))
                self.assertEqual(ask(n), ask(n))

    def test_what_is_told_of_changes_has_no_list_in_it(self):
        for one in CHANGES:
            for told in (changed((0, 1, None, 1), one), back(2, one), behind(2, one, CHANGES[0])):
                self.assertIsInstance(told, tuple)
                self.assertTrue(is_of_tuples_alone(told), told)

    def test_the_same_question_has_the_same_answer(self):
        for function in many_functions():
            for term in slow_good(function)[:8]:
                self.assertEqual(widened(function, term), widened(function, term))
            ones, frees = ones_of(function), frees_of(function)
            again = [function_of(switches(function), ones, frees) for _ in range(2)]
            self.assertEqual(again, [function, function])


if __name__ == "__main__":
    unittest.main()
