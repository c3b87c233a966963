"""Point 4: what the modules tell, held against one another."""

import itertools
import unittest

from helpers import (POINTS, all_functions, choices, crowded_functions, least_of, many_functions, ones, plain_functions,
                     signs, slow_forms, slow_good, slow_greatest, some_functions, some_groups, switches)
from leastterms.changes import changed, changed_term
from leastterms.counts import by_greatest, by_least, most_greatest, most_least
from leastterms.forms import is_form, least_form, least_many, signs_of
from leastterms.gaps import gaps, is_smooth, least_smooth, mended, steps
from leastterms.greatest import greatest
from leastterms.kinds import change_to, kinds, least_alike
from leastterms.needs import needed, swept
from leastterms.papers import paper_for, paper_shows
from leastterms.products import (function_of_product, function_of_sum, is_product, least_product, opposite,
                                 shorter_side)
from leastterms.shared import broad_terms, is_shared, least_shared
from leastterms.sharedpapers import shared_paper, shared_shows


def length(form):
    return (len(form), signs_of(form))


def slow_covers(points, terms):
    return [pick for pick in choices(terms) if set(points) <= set().union(*[POINTS[term] for term in pick])]


def greedy_forms(function):
    """Forms that somebody could make: by points from below and from above, of narrow and of wide terms."""
    good = slow_good(function)
    for points in (sorted(ones(function)), sorted(ones(function), reverse=True)):
        for terms in (good, good[::-1], sorted(good, key=lambda term: (term.count("-"), term))):
            form = set()
            for point in points:
                if not any(point in POINTS[term] for term in form):
                    form.add([term for term in terms if point in POINTS[term]][0])
            yield tuple(sorted(form))


class Promise(unittest.TestCase):
    def test_needed_terms_are_in_each_form_of_greatest_terms(self):
        for function in all_functions(2) + some_functions(3, 200) + some_functions(4, 40) + crowded_functions():
            forms = slow_forms(function, slow_greatest(function))
            in_all = set(slow_greatest(function)).intersection(*map(set, forms))
            self.assertEqual(set(needed(function)), in_all, function)

    def test_sweeps_leave_what_is_least(self):
        for function in many_functions() + all_functions(3)[::7] + crowded_functions():
            taken, points, terms = swept(function)
            rest = least_of(slow_covers(points, terms))[0]
            self.assertEqual(set(taken) & set(rest), set())
            whole = tuple(sorted(taken + rest))
            self.assertIs(is_form(function, whole), True, function)
            self.assertEqual(length(whole), length(least_form(function)), function)

    def test_no_form_is_shorter_than_the_least_one(self):
        for function in many_functions() + crowded_functions():
            least = least_form(function)
            self.assertIs(is_form(function, least), True)
            self.assertTrue(set(least) <= set(greatest(function)))
            self.assertTrue(set(needed(function)) <= set(least))
            self.assertGreaterEqual(least_many(function), 1)
            for form in greedy_forms(function):
                self.assertIs(is_form(function, form), True, (function, form))
                self.assertLessEqual((len(least), signs(least)), (len(form), signs(form)), (function, form))

    def test_a_paper_just_where_no_form_is_so_short(self):
        for function in many_functions() + crowded_functions():
            fewest = len(least_form(function))
            self.assertIsNone(paper_for(function, fewest))
            if fewest > 0:
                self.assertIs(paper_shows(function, fewest - 1, paper_for(function, fewest - 1)), True)
                self.assertIs(paper_shows(function, fewest, paper_for(function, fewest - 1)), False)

    def test_products_go_by_the_opposite_function(self):
        for function in many_functions() + crowded_functions():
            other = opposite(function)
            self.assertEqual(least_product(function), least_form(other))
            self.assertEqual(least_product(other), least_form(function))
            for handed in list(greedy_forms(other)) + [least_form(function), tuple(greatest(function))]:
                self.assertIs(is_product(function, handed), is_form(other, handed), (function, handed))

    def test_the_function_of_a_form_and_of_a_product(self):
        for function in many_functions() + crowded_functions():
            n = switches(function)
            for made in (function_of_sum(n, least_form(function)), function_of_product(n, least_product(function))):
                self.assertTrue(all(told in (None, answer) for told, answer in zip(function, made)), function)

    def test_functions_together_want_no_more_than_each_by_itself(self):
        for functions in some_groups(1, 30) + some_groups(2, 100) + some_groups(3, 150):
            apart = tuple(sorted(set().union(*[least_form(function) for function in functions])))
            together = least_shared(functions)
            self.assertIs(is_shared(functions, apart), True, functions)
            self.assertIs(is_shared(functions, together), True, functions)
            self.assertIs(is_shared(functions, tuple(broad_terms(functions))), True, functions)
            self.assertLessEqual(length(together), length(apart), functions)
            self.assertIsNone(shared_paper(functions, len(together)))
            if together:
                paper = shared_paper(functions, len(together) - 1)
                self.assertIs(shared_shows(functions, len(together) - 1, paper), True, functions)
                self.assertIs(shared_shows(functions, len(together), paper), False, functions)

    def test_what_is_alike_wants_as_many(self):
        changes = [((0, 1, 2), (0, 1, 1), 0), ((2, 0, 1), (0, 0, 0), 0), ((1, 0, 2), (1, 0, 1), 0)]
        for function in some_functions(3, 200):
            for change in changes:
                other = changed(function, change)
                self.assertEqual(length(least_form(other)), length(least_form(function)), (function, change))
                self.assertEqual(least_many(other), least_many(function), (function, change))
                moved = tuple(sorted(changed_term(3, term, change) for term in least_form(function)))
                self.assertIs(is_form(other, moved), True)
                turned_over = changed(function, change[:2] + (1,))
                self.assertEqual(length(least_product(turned_over)), length(least_form(function)), (function, change))

    def test_the_most_are_at_the_last_places(self):
        for n in (1, 2, 3):
            self.assertEqual(len(greatest(most_greatest(n))), len(by_greatest(n)) - 1)
            self.assertEqual(len(least_form(most_least(n))), len(by_least(n)) - 1)

    def test_alike_functions_have_sides_as_short(self):
        for function in plain_functions(1) + plain_functions(2) + some_functions(3, 60) + some_functions(4, 8):
            least = least_alike(function)
            change = change_to(function, least)
            self.assertEqual(changed(function, change), least)
            self.assertEqual(length(shorter_side(least)[1]), length(shorter_side(function)[1]), function)
            self.assertEqual(length(least_form(least) if change[2] == 0 else least_product(least)),
                             length(least_form(function)), function)

    def test_the_kinds_are_not_alike(self):
        for n in (1, 2, 3):
            told = kinds(n)
            for one, other in itertools.permutations(told, 2):
                self.assertIsNone(change_to(one, other))

    def test_a_form_without_gaps_keeps_each_turn_of_one_switch(self):
        for function in many_functions() + crowded_functions():
            smooth = least_smooth(function)
            self.assertIs(is_form(function, smooth), True, function)
            self.assertEqual(gaps(function, smooth), [], function)
            for step in steps(function):
                self.assertTrue(any(set(step) <= POINTS[term] for term in smooth), (function, step))
            for form in greedy_forms(function):
                whole = tuple(sorted(form + mended(function, form)))
                self.assertIs(is_smooth(function, whole), True, (function, form))
                self.assertLessEqual(len(smooth), len(whole), (function, form))


if __name__ == "__main__":
    unittest.main()
