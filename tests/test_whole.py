"""Points 2, 3 and 4 over the whole program: its interface, its refusals, and that what is told is the asker's own."""

import copy
import importlib
import inspect
import unittest

from helpers import TERMS, crowded_functions, is_number, no_changes, no_groups, odd_lists, read, refusal_of, things
from leastterms import errors
from leastterms.changes import is_change
from leastterms.desk import Desk
from leastterms.forms import is_form

# Of each module the names of the interface with their arguments.
INTERFACE = {
    "functions": {
        "is_function": "thing", "function_of": "n ones frees", "ones_of": "function", "noughts_of": "function",
        "frees_of": "function"},
    "terms": {"is_term": "n thing", "points_of": "term", "lies_in": "one other", "meet": "one other"},
    "greatest": {
        "is_good": "function term", "good_terms": "function", "greatest": "function", "widened": "function term",
        "levels": "function"},
    "needs": {"sole_points": "function", "needed": "function", "swept": "function"},
    "forms": {"is_form": "function thing", "signs_of": "form", "least_form": "function", "least_many": "function"},
    "papers": {"paper_shows": "function many thing", "paper_for": "function many"},
    "products": {
        "opposite": "function", "is_product": "function thing", "least_product": "function", "shorter_side": "function",
        "function_of_sum": "n terms", "function_of_product": "n terms", "multiplied": "n terms"},
    "shared": {"is_shared": "functions thing", "least_shared": "functions", "broad_terms": "functions"},
    "sharedpapers": {"shared_shows": "functions many thing", "shared_paper": "functions many"},
    "changes": {
        "is_change": "n thing", "changed": "function change", "changed_term": "n term change", "behind": "n one other",
        "back": "n change"},
    "kinds": {
        "change_to": "one other", "own_changes": "function", "least_alike": "function", "kinds": "n", "kinds_many": "n"},
    "counts": {"by_greatest": "n", "by_least": "n", "most_greatest": "n", "most_least": "n", "odd_function": "n"},
    "gaps": {
        "steps": "function", "gaps": "function form", "is_smooth": "function thing", "least_smooth": "function",
        "mended": "function form"},
    "texts": {
        "function_text": "function", "form_text": "form", "read_function": "text", "read_form": "n text"},
}

# Where nothing is handed in for which a refusal is told.
NOT_REFUSED = {"is_function", "points_of", "lies_in", "meet", "signs_of", "form_text"}

# What is handed in where an argument of another name, or of a narrower kind, stands.
OTHER_SLOTS = {
    "change_to": ("function", "function"), "behind": ("n", "change", "change"), "function_of": ("n", "points", "points"),
    "shared_shows": ("functions", "more", "thing"), "shared_paper": ("functions", "more"),
    "kinds": ("few",), "kinds_many": ("few",), "by_greatest": ("few",), "by_least": ("few",), "most_greatest": ("few",),
    "most_least": ("few",), "read_function": ("function text",), "widened": ("function", "good term"),
}

FUNCTION = (0, 1, None, 1)
TOGETHER = ((0, 1, 1, 1), (0, 0, 0, 1))


def is_switch_function(thing):
    return type(thing) is tuple and len(thing) in (2, 4, 8, 16) and all(
        answer is None or is_number(answer) and answer in (0, 1) for answer in thing)


def is_term_text(thing):
    return type(thing) is str and thing in TERMS[2]


def is_tuple_of_terms(thing):
    return type(thing) is tuple and all(map(is_term_text, thing)) and list(thing) == sorted(set(thing))


def is_list_of_points(thing):
    return type(thing) is list and all(is_number(point) and 0 <= point < 4 for point in thing) and (
        len(set(thing)) == len(thing))


def within(least, most):
    return lambda thing: is_number(thing) and least <= thing <= most


# Of each kind of argument: its refusal, one that is let, whether a thing is, and things that are near to one.
SLOTS = {
    "n": (errors.NoNumber, 2, within(1, 4), [0, 5, -2, 2.0, "2", [2], (2,), True]),
    "few": (errors.NoNumber, 2, within(1, 3), [0, 4, 5, -2, 2.0, "2", [2], (2,), True]),
    "many": (errors.NoNumber, 1, within(0, 16), [-1, 17, 1.0, "1", [1], (1,), True, False]),
    "more": (errors.NoNumber, 1, within(0, 24), [-1, 25, 1.0, "1", [1], (1,), True, False]),
    "function": (errors.NoFunction, FUNCTION, is_switch_function, [
        list(FUNCTION), "01-1", FUNCTION[1:], FUNCTION * 8, (0, 1, None, True), (0, 1, None, 2), (0, 1, None, 1.0)]),
    "functions": (errors.NoFunction, TOGETHER, lambda thing: thing == TOGETHER, no_groups()),
    "points": (errors.NoPoint, [], is_list_of_points, [(1,), (), [4], [1, 1], [True], ["1"], {1: 1}, "1", None]),
    "term": (errors.NoTerm, "-1", is_term_text, ["-", "-11", "x1", ["-", "1"], ("-1",), b"-1", 1, None, " 1"]),
    "good term": (errors.NoTerm, "-1", lambda thing: thing in ("01", "10", "11", "-1", "1-"), [
        "--", "0-", "-0", "00", "-", "-11", "x1", ["-", "1"], ("-1",), b"-1", None]),
    "terms": (errors.NoTerm, ("-1", "1-"), is_tuple_of_terms, [
        ["-1", "1-"], ("1-", "-1"), ("-1", "-1"), ("-1", "1"), ("-1", None), "-1", None, {"-1": 1}, ("-1", ["1-"])]),
    "change": (errors.NoChange, ((1, 0), (0, 1), 1), lambda thing: False, no_changes(2)),
    "form": (errors.NoForm, ("-1",), lambda thing: False, [
        ["-1"], (), ("1-",), ("--",), ("-1", "0-"), ("-1", "-1"), ("1-", "-1"), ("-1", None), "-1", None, {"-1": 1}]),
    "function text": (errors.NoText, "01-1", lambda thing: False, [
        "01-", "01-1 ", "012-", "", FUNCTION, list("01-1"), b"01-1", None, ("01-1",)]),
    "text": (errors.NoText, "-1 + 1-", lambda thing: False, [
        "1- + -1", "-1 + -1", "-1+1-", "-1 + 1", "", " ", "None", "none + -1", ("-1", "1-"), ["-1"], b"none", None]),
    "thing": (None, None, None, None),
}


def call_named(module, name):
    return getattr(importlib.import_module(f"leastterms.{module}"), name)


def asked():
    """Each function of the interface with its kinds of arguments, but those of which nothing is refused."""
    for module, names in INTERFACE.items():
        for name, arguments in names.items():
            if name not in NOT_REFUSED:
                yield call_named(module, name), OTHER_SLOTS.get(name, tuple(arguments.split()))


def wrong_things(slot):
    refusal, let, is_let, near = SLOTS[slot]
    return near + [thing for thing in things() + odd_lists() if not is_let(thing)]


class Interface(unittest.TestCase):
    def test_names_and_arguments(self):
        for module, names in INTERFACE.items():
            for name, arguments in names.items():
                told = inspect.signature(call_named(module, name)).parameters
                self.assertEqual(list(told), arguments.split(), name)
                for parameter in told.values():
                    self.assertIs(parameter.kind, inspect.Parameter.POSITIONAL_OR_KEYWORD, name)
                    self.assertIs(parameter.default, inspect.Parameter.empty, name)
        self.assertEqual(list(inspect.signature(Desk).parameters), [])
        self.assertEqual(list(inspect.signature(Desk().say).parameters), ["line"])

    def test_refusals(self):
        names = "NoFunction NoTerm NoPoint NoNumber NoForm NoChange NoText NoLine NoDeed".split()
        for name in names:
            self.assertEqual(getattr(errors, name).__bases__, (errors.TermError,))
        self.assertEqual(errors.TermError.__bases__, (ValueError,))


class Refusals(unittest.TestCase):
    def test_what_is_let_is_not_refused(self):
        for ask, slots in asked():
            self.assertIsNone(refusal_of(ask, *[SLOTS[slot][1] for slot in slots]), ask)

    def test_of_a_thing_of_whatever_kind(self):
        for ask, slots in asked():
            for at, slot in enumerate(slots):
                if slot == "thing":
                    continue
                ahead = [SLOTS[earlier][1] for earlier in slots[:at]]
                for wrong in wrong_things(slot):
                    behind = [SLOTS[later][1] for later in slots[at + 1:]]
                    self.assertIs(refusal_of(ask, *ahead, wrong, *behind), SLOTS[slot][0], (ask, at, wrong))

    def test_the_one_that_is_told_first_goes_first(self):
        for ask, slots in asked():
            for at, slot in enumerate(slots[:-1]):
                ahead = [SLOTS[earlier][1] for earlier in slots[:at]]
                for wrong in wrong_things(slot):
                    for other in (None, object(), [[]], "x", wrong):
                        handed = ahead + [wrong] + [other] * (len(slots) - at - 1)
                        self.assertIs(refusal_of(ask, *handed), SLOTS[slot][0], (ask, at, wrong, other))

    def test_a_term_or_a_form_of_another_number_of_switches(self):
        for ask, slots in asked():
            if slots[0] == "function" and slots[-1] in ("term", "good term", "form", "change"):
                for function in ((1, 1), (1,) * 8, (1,) * 16):
                    handed = SLOTS[slots[-1]][1]
                    self.assertIs(refusal_of(ask, function, handed), SLOTS[slots[-1]][0], (ask, function))

    def test_of_anything_it_is_answered(self):
        for ask, slots in asked():
            if slots[-1] == "thing":
                ahead = [SLOTS[slot][1] for slot in slots[:-1]]
                for thing in things() + odd_lists():
                    self.assertIn(ask(*ahead, thing), (True, False))
                    self.assertIs(type(ask(*ahead, (thing, thing, thing))), bool)


def good_calls():
    """Calls that are not refused, with lists and texts newly made, of each function of the interface."""
    functions = [FUNCTION, (1, 1), (0, 0), read("01111110"), read("01010011"), (None,) * 4, crowded_functions()[0]]
    changes = {2: ((1, 0), (0, 1), 1), 3: ((2, 0, 1), (0, 1, 1), 0)}
    for module, names in INTERFACE.items():
        for name, arguments in names.items():
            if arguments == "function":
                for function in functions:
                    yield call_named(module, name), (function,)
            elif arguments == "n":
                for n in (1, 2, 3):
                    yield call_named(module, name), (n,)
    named = {name: call_named(module, name) for module in INTERFACE for name in INTERFACE[module]}
    yield named["function_of"], (3, [6, 1, 3], [0, 5])
    for term in TERMS[2]:
        yield named["points_of"], (term,)
        yield named["meet"], (term, "-1")
        yield named["changed_term"], (2, term, changes[2])
    for clauses in ((), ("00",), ("-0", "0-"), tuple(TERMS[2])):
        for name in ("multiplied", "function_of_sum", "function_of_product"):
            yield named[name], (2, clauses)
    for many in range(3):
        yield named["paper_for"], (functions[3], many)
        yield named["shared_paper"], (TOGETHER, many)
    for name in ("least_shared", "broad_terms"):
        yield named[name], (TOGETHER,)
    yield named["widened"], (FUNCTION, "11")
    yield named["changed"], (functions[3], changes[3])
    yield named["behind"], (2, changes[2], changes[2])
    yield named["back"], (3, changes[3])
    yield named["change_to"], (FUNCTION, FUNCTION)
    for form in (("0-1", "11-"), ("-11", "0-1", "11-"), ("001", "011", "110", "111")):
        for name in ("gaps", "mended"):
            yield named[name], (functions[4], form)
        yield named["form_text"], (form,)
        yield named["signs_of"], (form,)
    yield named["read_function"], ("01-1",)
    yield named["read_form"], (2, "-1 + 1-")


def lists_in(told):
    """All lists within what is told, itself too."""
    found = [told] if isinstance(told, list) else []
    if isinstance(told, (list, tuple)):
        for inner in told:
            found += lists_in(inner)
    return found


class OwnAnswers(unittest.TestCase):
    def test_told_twice_changed_and_told_again(self):
        for ask, handed in good_calls():
            before = copy.deepcopy(handed)
            told, second = ask(*handed), ask(*handed)
            kept = copy.deepcopy(told)
            self.assertEqual(second, kept, (ask, handed))
            found = lists_in(told) + lists_in(second) + lists_in(list(handed))
            self.assertEqual(len({id(one) for one in found}), len(found), (ask, handed))
            for inner in lists_in(told):
                inner.append("spoiled")
                inner.reverse()
                inner.clear()
            self.assertEqual(ask(*handed), kept, (ask, handed))
            self.assertEqual(second, kept, (ask, handed))
            self.assertEqual(handed, before, (ask, handed))

    def test_what_is_refused_or_looked_at_stays_as_it_was(self):
        for ask, slots in asked():
            let = [SLOTS[slot][1] for slot in slots]
            for at in range(len(slots)):
                for wrong in odd_lists() + [[3, [2, 1]], {"b": [1], "a": (2, [0])}, ([1], [0]), ["1-", "-1"]]:
                    before = copy.deepcopy(wrong)
                    refusal_of(ask, *let[:at], wrong, *let[at + 1:])
                    self.assertEqual(repr(wrong), repr(before), ask)

    def test_only_what_is_a_list_by_the_interface_is_one(self):
        lists = set(
            "ones_of noughts_of frees_of points_of good_terms greatest levels sole_points needed multiplied broad_terms"
            " own_changes kinds kinds_many by_greatest by_least steps gaps".split())
        for ask, handed in good_calls():
            told = ask(*handed)
            self.assertIs(type(told) is list, ask.__name__ in lists, ask)
            if type(told) is tuple:
                self.assertEqual(lists_in(told), [], ask)


class Examples(unittest.TestCase):
    def test_slots_are_as_they_say(self):
        self.assertTrue(all(not is_change(2, thing) for thing in wrong_things("change")))
        self.assertTrue(all(not is_form(FUNCTION, thing) for thing in wrong_things("form")))


if __name__ == "__main__":
    unittest.main()
