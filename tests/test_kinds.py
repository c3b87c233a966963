import itertools
import unittest

from helpers import (all_changes, all_functions, crowded_functions, odd_lists, plain_functions, read, refusal_of,
                     slow_changed, some_functions, still, switches, text_of, things)
from leastterms.errors import NoFunction, NoNumber
from leastterms.kinds import change_to, kinds, kinds_many, least_alike, own_changes

NO_N = [True, False, None, 0, 4, 5, -1, 10 ** 29, 1.0, 2.0, "1", "", (), (1,), [], [1], {}, b"1", (0, 1)]


def reached(function):
    """All changes with the function that each leads to."""
    return [(change, slow_changed(function, change)) for change in all_changes(switches(function))]


def some_of_all():
    return all_functions(1) + all_functions(2) + some_functions(3, 60)


class Refusals(unittest.TestCase):
    def test_no_function(self):
        for thing in things() + odd_lists() + [[0, 1], (0, 1, 2, 0), (0, True), "01"]:
            self.assertIs(refusal_of(own_changes, thing), NoFunction, thing)
            self.assertIs(refusal_of(least_alike, thing), NoFunction, thing)
            for other in ((0, 1), (1,) * 16, None, thing):
                self.assertIs(refusal_of(change_to, thing, other), NoFunction, thing)
                self.assertIs(refusal_of(change_to, other, thing), NoFunction, thing)

    def test_unlike_numbers_of_switches(self):
        for n, other in itertools.permutations(range(1, 5), 2):
            for answer in (0, 1, None):
                self.assertIs(refusal_of(change_to, (answer,) * 2 ** n, (answer,) * 2 ** other), NoFunction)

    def test_no_number(self):
        for n in NO_N + things() + odd_lists():
            self.assertIs(refusal_of(kinds, n), NoNumber, n)
            self.assertIs(refusal_of(kinds_many, n), NoNumber, n)


class ChangeTo(unittest.TestCase):
    def check(self, one, others):
        first = {}
        for change, function in reached(one):
            first.setdefault(function, change)
            first[function] = min(first[function], change)
        for other in others:
            self.assertEqual(repr(change_to(one, other)), repr(first.get(other)), (one, other))

    def test_each_two_of_one_and_two_switches(self):
        for n in (1, 2):
            for one in all_functions(n):
                self.check(one, all_functions(n))

    def test_of_three_switches(self):
        for one in some_functions(3, 30):
            self.check(one, [function for change, function in reached(one)] + some_functions(3, 30))

    def test_of_four_switches(self):
        for one in some_functions(4, 4)[2:] + crowded_functions()[:2]:
            self.check(one, [function for change, function in reached(one)][::31] + some_functions(4, 6))

    def test_written_out(self):
        self.assertEqual(change_to((0, 1), (0, 1)), ((0,), (0,), 0))
        self.assertEqual(change_to((0, 1), (1, 0)), ((0,), (0,), 1))
        self.assertEqual(change_to((None, 1), (1, None)), ((0,), (1,), 0))
        self.assertIsNone(change_to((0, 1), (1, 1)))
        self.assertIsNone(change_to((0, 1), (0, None)))
        self.assertEqual(change_to(read("0011"), read("0101")), ((1, 0), (0, 0), 0))
        self.assertIsNone(change_to(read("0110"), read("0111")))


class OwnChanges(unittest.TestCase):
    def check(self, function):
        told = own_changes(function)
        self.assertIs(type(told), list)
        wanted = sorted(change for change, other in reached(function) if other == function)
        self.assertEqual(repr(told), repr(wanted), function)

    def test_against_all_changes(self):
        for function in some_of_all():
            self.check(function)
        for function in some_functions(4, 6) + crowded_functions()[:3]:
            self.check(function)

    def test_written_out(self):
        self.assertEqual(own_changes((0, 1)), [((0,), (0,), 0), ((0,), (1,), 1)])
        self.assertEqual(own_changes((None, 1)), [((0,), (0,), 0)])
        self.assertEqual(own_changes((None, None)), all_changes(1))
        for function in some_of_all():
            self.assertEqual(own_changes(function)[0], still(switches(function)))


class LeastAlike(unittest.TestCase):
    def check(self, function):
        told = least_alike(function)
        self.assertIs(type(told), tuple)
        wanted = min((other for change, other in reached(function)), key=text_of)
        self.assertEqual(repr(told), repr(wanted), function)

    def test_against_all_changes(self):
        for function in some_of_all():
            self.check(function)
        for function in some_functions(4, 10) + crowded_functions()[:4]:
            self.check(function)

    def test_written_out(self):
        self.assertEqual(least_alike((1, 1)), (0, 0))
        self.assertEqual(least_alike((1, 0)), (0, 1))
        # Free is ahead of 0 in texts.
        self.assertEqual(least_alike((1, None)), (None, 0))
        self.assertEqual(least_alike(read("1101")), read("0001"))
        self.assertEqual(least_alike(read("1-01")), read("-001"))

    def test_alike_ones_have_the_same_least_one(self):
        for function in some_functions(3, 20):
            for change, other in reached(function)[::7]:
                self.assertEqual(least_alike(other), least_alike(function))


class Kinds(unittest.TestCase):
    def test_against_all_functions(self):
        for n in (1, 2, 3):
            leasts = [min((other for change, other in reached(function)), key=text_of)
                      for function in plain_functions(n)]
            wanted = sorted(set(leasts), key=text_of)
            self.assertEqual(repr(kinds(n)), repr(wanted))
            self.assertEqual(kinds_many(n), [leasts.count(function) for function in wanted])

    def test_written_out(self):
        self.assertEqual((kinds(1), kinds_many(1)), ([(0, 0), (0, 1)], [2, 2]))
        self.assertEqual(kinds(2), [read("0000"), read("0001"), read("0011"), read("0110")])
        self.assertEqual(kinds_many(2), [2, 8, 4, 2])
        self.assertEqual(len(kinds(3)), 14)

    def test_lists_of_whole_numbers_and_functions(self):
        for n in (1, 2, 3):
            self.assertIs(type(kinds(n)), list)
            self.assertIs(type(kinds_many(n)), list)
            self.assertTrue(all(type(many) is int for many in kinds_many(n)))
            self.assertEqual(len(kinds(n)), len(kinds_many(n)))
            self.assertEqual(sum(kinds_many(n)), 2 ** 2 ** n)
            self.assertEqual([least_alike(function) for function in kinds(n)], kinds(n))

    def test_the_lists_are_the_askers_own(self):
        for n in (1, 2, 3):
            for ask in (kinds, kinds_many):
                told = ask(n)
                kept = list(told)
                self.assertIsNot(ask(n), told)
                told.clear()
                self.assertEqual(ask(n), kept)


if __name__ == "__main__":
    unittest.main()
