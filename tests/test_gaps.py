import itertools
import unittest

from helpers import (TERMS, all_changes, all_functions, choices, crowded_functions, many_functions, odd_lists, ones,
                     plain_functions, read, refusal_of, signs, slow_forms, slow_gaps, slow_good, slow_greatest,
                     slow_steps, some_functions, switches, things)
from leastterms.changes import changed, changed_term
from leastterms.errors import NoForm, NoFunction
from leastterms.forms import is_form, least_form
from leastterms.gaps import gaps, is_smooth, least_smooth, mended, steps


def slow_smooth_forms(function, terms):
    return [form for form in slow_forms(function, terms) if not slow_gaps(function, form)]


def length(form):
    return (len(form), signs(form))


def some_forms(function):
    """Forms of a function: the least one, all greatest terms, single points, all good terms."""
    n = switches(function)
    points = tuple(sorted(bin(point)[2:].zfill(n) for point in ones(function)))
    good = tuple(slow_good(function))
    greatest = tuple(slow_greatest(function))
    told = [least_form(function), greatest, points, good]
    for term in greatest:
        told.append(tuple(sorted(set(points + (term,)))))
    return told


def no_forms(function):
    """Things that are no form of the function."""
    n = switches(function)
    form = tuple(slow_greatest(function))
    told = [list(form), set(form), dict.fromkeys(form), " + ".join(form), (form,), None, form + ((),), form + ("-" * 5,)]
    told += [form + (None,), form + form[-1:] if form else None, form[::-1] if len(form) > 1 else None, "-" * n]
    told += [(term,) for term in TERMS[n] if term not in slow_good(function)]
    told += [tuple(sorted(form + (term,))) for term in TERMS[n] if term not in slow_good(function)]
    told += [form[:at] + form[at + 1:] for at in range(len(form))
             if not is_form(function, form[:at] + form[at + 1:])]
    told += [("-" * other,) for other in range(1, 5) if other != n]
    for thing in things() + odd_lists():
        told += [(thing,), ("-" * n, thing)] if thing == () else [thing, (thing,), ("-" * n, thing)]
    if ones(function):
        told.append(())
    return [thing for thing in told if not is_form(function, thing)]


class Refusals(unittest.TestCase):
    def test_no_function_ahead_of_no_form(self):
        for thing in things() + odd_lists() + [[0, 1], (0, 1, 2, 0), (0, True), "01"]:
            self.assertIs(refusal_of(steps, thing), NoFunction, thing)
            self.assertIs(refusal_of(least_smooth, thing), NoFunction, thing)
            for form in ((), ("1",), None, [], thing):
                for ask in (gaps, mended, is_smooth):
                    self.assertIs(refusal_of(ask, thing, form), NoFunction, thing)

    def test_no_form(self):
        functions = [(0, 1), (1, 1), (0, 0), (None, 1), read("0111"), read("01111110"), read("-110101001111110")]
        for function in functions + some_functions(2, 12) + some_functions(3, 12) + some_functions(4, 6):
            wrongs = no_forms(function)
            self.assertGreater(len(wrongs), 100)
            for thing in wrongs:
                self.assertIs(refusal_of(gaps, function, thing), NoForm, (function, thing))
                self.assertIs(refusal_of(mended, function, thing), NoForm, (function, thing))
                self.assertIs(is_smooth(function, thing), False, (function, thing))


class Steps(unittest.TestCase):
    def test_bit_by_bit(self):
        for function in many_functions() + plain_functions(3) + crowded_functions():
            told = steps(function)
            self.assertIs(type(told), list)
            self.assertEqual(repr(told), repr(slow_steps(function)), function)
            self.assertEqual(told, sorted(set(told)))

    def test_written_out(self):
        self.assertEqual(steps((1, 1)), [(0, 1)])
        self.assertEqual(steps((1, None)), [])
        self.assertEqual(steps(read("1111")), [(0, 1), (0, 2), (1, 3), (2, 3)])
        self.assertEqual(steps(read("0110")), [])
        self.assertEqual(steps(read("01111110")), [(1, 3), (1, 5), (2, 3), (2, 6), (4, 5), (4, 6)])
        self.assertEqual(len(steps((1,) * 16)), 32)


class Gaps(unittest.TestCase):
    def test_against_all_steps(self):
        for function in many_functions() + crowded_functions():
            for form in some_forms(function):
                told = gaps(function, form)
                self.assertIs(type(told), list)
                self.assertEqual(repr(told), repr(slow_gaps(function, form)), (function, form))

    def test_each_form_of_two_switches(self):
        for function in all_functions(2):
            for form in slow_forms(function, slow_good(function)):
                self.assertEqual(gaps(function, form), slow_gaps(function, form), (function, form))

    def test_written_out(self):
        # The known one: the two terms meet at a switch, and the term between them is out.
        function = read("01010011")
        self.assertEqual(least_form(function), ("0-1", "11-"))
        self.assertEqual(gaps(function, ("0-1", "11-")), [(3, 7)])
        self.assertEqual(gaps(function, ("-11", "0-1", "11-")), [])
        self.assertEqual(gaps((0, 0), ()), [])
        self.assertEqual(gaps((1, 1), ("0", "1")), [(0, 1)])
        self.assertEqual(gaps((1, 1), ("-",)), [])


class Smooth(unittest.TestCase):
    def test_each_choice_of_terms(self):
        for n in (1, 2):
            picks = choices(TERMS[n])
            for function in all_functions(n):
                smooth = set(slow_smooth_forms(function, slow_good(function)))
                for pick in picks:
                    self.assertIs(is_smooth(function, pick), pick in smooth, (function, pick))

    def test_of_many_forms(self):
        for function in many_functions() + crowded_functions():
            for form in some_forms(function):
                self.assertIs(is_smooth(function, form), not slow_gaps(function, form), (function, form))
            self.assertIs(is_smooth(function, tuple(slow_greatest(function))), True, function)

    def test_of_anything(self):
        for function in ((0, 1), (1, 1, None, 0), read("01111110"), (1,) * 16, (0, 0, 0, 1)):
            for thing in things() + odd_lists():
                for wrong in (thing, (thing,), ("-" * switches(function), thing), [thing]):
                    self.assertIs(is_smooth(function, wrong), False, wrong)
        for n in range(1, 5):
            self.assertIs(is_smooth((0,) * 2 ** n, ()), True)
            self.assertIs(is_smooth((None,) * 2 ** n, ()), True)
            self.assertIs(is_smooth((0,) * 2 ** n, []), False)


class LeastSmooth(unittest.TestCase):
    def check(self, function, terms):
        told = least_smooth(function)
        self.assertIs(type(told), tuple)
        forms = slow_smooth_forms(function, terms)
        self.assertIn(told, forms, function)
        self.assertEqual(length(told), min(map(length, forms)), function)
        self.assertEqual(least_smooth(function), told)

    def test_against_all_lists_of_good_terms(self):
        for n in (1, 2):
            for function in all_functions(n):
                self.check(function, slow_good(function))
        for function in some_functions(3, 60):
            if len(slow_good(function)) <= 11:
                self.check(function, slow_good(function))

    def test_against_all_lists_of_greatest_terms(self):
        for function in plain_functions(3) + all_functions(3)[::11] + some_functions(4, 120) + crowded_functions()[:9]:
            if len(slow_greatest(function)) <= 12:
                self.check(function, slow_greatest(function))

    def test_written_out(self):
        self.assertEqual(least_smooth(read("01010011")), ("-11", "0-1", "11-"))
        self.assertEqual(least_smooth((0, 0)), ())
        self.assertEqual(least_smooth(read("0110")), ("01", "10"))
        self.assertEqual(least_smooth(read("01111110")), ("-01", "-10", "0-1", "01-", "1-0", "10-"))


class Mended(unittest.TestCase):
    def slow_length(self, function, form, terms):
        """The fewest terms, of these the fewest signs, with which the form is smooth."""
        for many in range(len(terms) + 1):
            told = [signs(pick) for pick in itertools.combinations(terms, many)
                    if not slow_gaps(function, form + pick)]
            if told:
                return many, min(told)

    def check(self, function, form, terms):
        told = mended(function, form)
        self.assertIs(type(told), tuple)
        self.assertEqual(told, tuple(sorted(set(told))))
        good = slow_good(function)
        self.assertTrue(all(term in good and term not in form for term in told), (function, form, told))
        self.assertIs(is_smooth(function, tuple(sorted(form + told))), True, (function, form))
        wanted = self.slow_length(function, form, [term for term in terms if term not in form])
        self.assertEqual(length(told), wanted, (function, form))
        self.assertEqual(mended(function, form), told)

    def test_against_all_lists_of_good_terms(self):
        for n in (1, 2):
            for function in all_functions(n):
                for form in slow_forms(function, slow_good(function))[:: 1 if n == 1 else 3]:
                    self.check(function, form, slow_good(function))
        for function in some_functions(3, 60):
            if len(slow_good(function)) <= 12:
                for form in some_forms(function):
                    self.check(function, form, slow_good(function))

    def test_against_all_lists_of_greatest_terms(self):
        for function in plain_functions(3)[::3] + all_functions(3)[::23] + some_functions(4, 40):
            greatest = slow_greatest(function)
            if len(greatest) <= 11:
                for form in some_forms(function)[:6]:
                    self.check(function, form, greatest)

    def test_nothing_mends_a_smooth_form(self):
        for function in many_functions() + crowded_functions():
            self.assertEqual(mended(function, least_smooth(function)), ())
            self.assertEqual(mended(function, tuple(slow_greatest(function))), ())

    def test_written_out(self):
        self.assertEqual(mended(read("01010011"), ("0-1", "11-")), ("-11",))
        self.assertEqual(mended((1, 1), ("0", "1")), ("-",))
        self.assertEqual(mended((0, 0), ()), ())


class Bounds(unittest.TestCase):
    def test_no_shorter_than_the_least_form(self):
        for function in many_functions() + crowded_functions():
            least, smooth = least_form(function), least_smooth(function)
            self.assertGreaterEqual(length(smooth), length(least), function)
            self.assertLessEqual(len(smooth), len(least) + len(mended(function, least)), function)
            if is_smooth(function, least):
                self.assertEqual(length(smooth), length(least), function)

    def test_changed_by_a_change(self):
        for function in all_functions(1) + some_functions(2, 24) + some_functions(3, 12):
            n = switches(function)
            forms = some_forms(function)
            for change in all_changes(n):
                if change[2] == 1:
                    continue
                other = changed(function, change)
                for form in forms:
                    moved = tuple(sorted(changed_term(n, term, change) for term in form))
                    self.assertIs(is_form(other, moved), True)
                    self.assertIs(is_smooth(other, moved), is_smooth(function, form), (function, form, change))
                    self.assertEqual(len(gaps(other, moved)), len(gaps(function, form)))
                self.assertEqual(length(least_smooth(other)), length(least_smooth(function)), (function, change))


if __name__ == "__main__":
    unittest.main()
