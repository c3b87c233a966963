import itertools
import unittest

from helpers import (TERMS, all_functions, choices, many_functions, odd_lists, read, refusal_of, slow_good, some_functions,
                     text_of, things)
from leastterms.errors import NoFunction, NoNumber, NoText
from leastterms.forms import least_form
from leastterms.texts import form_text, function_text, read_form, read_function

NO_N = [True, False, None, 0, 5, -1, 10 ** 29, 1.0, 2.0, "1", "", "none", (), (1,), [], [1], {}, b"1"]

NOT_TEXTS = [None, True, False, 0, 1, 10, 10 ** 29, 1.0, b"01", b"none", (), ("0", "1"), ["0", "1"], (0, 1), [0, 1], {},
             {"01": 1}, ("01",), ["01"], ("none",), bytearray(b"01"), {"0"}, object()]


def rising_tuples(n):
    """Rising tuples of terms of n, all of one and of two switches."""
    if n < 3:
        return choices(TERMS[n])
    functions = some_functions(n, 40)
    told = [tuple(slow_good(function)) for function in functions] + [least_form(function) for function in functions]
    return told + [(term,) for term in TERMS[n]] + list(itertools.combinations(TERMS[n][::4], 3)) + [tuple(TERMS[n]), ()]


class FunctionTexts(unittest.TestCase):
    def test_no_function(self):
        for thing in things() + odd_lists() + [[0, 1], (0, 1, 2, 0), (0, True), "01", "0"]:
            self.assertIs(refusal_of(function_text, thing), NoFunction, thing)

    def test_written_and_read_again(self):
        for function in many_functions():
            text = function_text(function)
            self.assertIs(type(text), str)
            self.assertEqual(text, text_of(function))
            told = read_function(text)
            self.assertIs(type(told), tuple)
            self.assertEqual(repr(told), repr(function))

    def test_written_out(self):
        self.assertEqual(function_text((0, 1, None, 1)), "01-1")
        self.assertEqual(read_function("-0"), (None, 0))
        self.assertEqual(read_function("01-10010"), (0, 1, None, 1, 0, 0, 1, 0))

    def test_each_short_text(self):
        for length in range(6):
            for signs in itertools.product("01-", repeat=length):
                text = "".join(signs)
                if length in (2, 4):
                    self.assertEqual(function_text(read_function(text)), text)
                else:
                    self.assertIs(refusal_of(read_function, text), NoText, text)

    def test_with_something_wrong(self):
        for function in some_functions(1, 4) + some_functions(2, 6) + some_functions(3, 6) + some_functions(4, 6):
            text = text_of(function)
            for at in range(len(text)):
                self.assertIs(refusal_of(read_function, text[:at] + text[at + 1:]), NoText)
                for sign in "2xX \n\t+_\u2212\u0660\u00b9o":
                    self.assertIs(refusal_of(read_function, text[:at] + sign + text[at + 1:]), NoText)
                for sign in "01- ":
                    self.assertIs(refusal_of(read_function, text[:at] + sign + text[at:]), NoText)
            for wrong in (" " + text, text + " ", text + "\n", text * 3, " ".join(text), ",".join(text), text * 16,
                          text.encode(), list(text), tuple(text), function, (text,), [text], {text: text}):
                self.assertIs(refusal_of(read_function, wrong), NoText, wrong)

    def test_of_anything(self):
        for thing in things() + odd_lists() + NOT_TEXTS + ["", " ", "none", "0", "None", "0b", "(0, 1)", "0" * 32]:
            self.assertIs(refusal_of(read_function, thing), NoText, thing)


class FormTexts(unittest.TestCase):
    def test_no_number_ahead(self):
        for n in NO_N + odd_lists():
            for text in ("none", "0", "", None, n):
                self.assertIs(refusal_of(read_form, n, text), NoNumber, n)

    def test_written_and_read_again(self):
        for n in range(1, 5):
            for form in rising_tuples(n):
                text = form_text(form)
                self.assertIs(type(text), str)
                self.assertEqual(text, " + ".join(form) or "none")
                told = read_form(n, text)
                self.assertIs(type(told), tuple)
                self.assertEqual(told, form)

    def test_written_out(self):
        self.assertEqual(form_text(()), "none")
        self.assertEqual(form_text(("-",)), "-")
        self.assertEqual(form_text(("-01", "01-", "1-0")), "-01 + 01- + 1-0")
        for n in range(1, 5):
            self.assertEqual(read_form(n, "none"), ())
        self.assertEqual(read_form(2, "-1 + 1-"), ("-1", "1-"))

    def test_each_short_text(self):
        written = {form_text(form): form for form in choices(TERMS[1])}
        for length in range(6):
            for signs in itertools.product("01-+ ", repeat=length):
                text = "".join(signs)
                if text in written:
                    self.assertEqual(read_form(1, text), written[text])
                else:
                    self.assertIs(refusal_of(read_form, 1, text), NoText, text)

    def test_with_something_wrong(self):
        for n, form in ((1, ("0", "1")), (2, ("-1", "01", "1-")), (3, ("-01", "01-", "1-0")), (4, ("--01", "1111"))):
            text = form_text(form)
            self.assertEqual(read_form(n, text), form)
            for at in range(len(text)):
                self.assertIs(refusal_of(read_form, n, text[:at] + text[at + 1:]), NoText)
                for sign in "2x_\n\t\u2212\u0660":
                    self.assertIs(refusal_of(read_form, n, text[:at] + sign + text[at + 1:]), NoText)
                for sign in "01-+ ":
                    self.assertIs(refusal_of(read_form, n, text[:at] + sign + text[at:]), NoText)
            first, last = form[0], form[-1]
            wrongs = [" " + text, text + " ", text + "\n", text + " + ", " + " + text, text + " +", "+ " + text]
            wrongs += [text.replace(" ", ""), text.replace(" + ", " "), text.replace(" + ", "  +  "), "(" + text + ")"]
            wrongs += [text.replace(" + ", " , "), text.replace(" + ", "\t+\t"), " + ".join(form[::-1])]
            wrongs += [f"{first} + {first}", f"{last} + {last}", f"{last} + {first}", f"{text} + {last}"]
            wrongs += [f"{first} + {text}", f"none + {text}", f"{text} + none", f"{first} + none + {last}", "none + none"]
            wrongs += [text.encode(), form, list(form), (text,), [text], {text: 1}, dict.fromkeys(form)]
            wrongs += ["none ", " none", "None", "NONE", "none\n", "non", "nonee", "", " ", "+", " + ", "()", "-" * (n + 1)]
            for wrong in wrongs:
                self.assertIs(refusal_of(read_form, n, wrong), NoText, wrong)
            for other in {1, 2, 3, 4} - {n}:
                self.assertIs(refusal_of(read_form, other, text), NoText)
                self.assertIs(refusal_of(read_form, n, f"{first} + {'1' * other}"), NoText)

    def test_of_anything(self):
        for n in range(1, 5):
            for thing in things() + odd_lists() + NOT_TEXTS:
                self.assertIs(refusal_of(read_form, n, thing), NoText, thing)

    def test_forms_and_products_of_functions(self):
        for function in all_functions(2) + some_functions(3, 60):
            form = least_form(function)
            self.assertEqual(read_form(len(function).bit_length() - 1, form_text(form)), form)
        self.assertEqual(form_text(least_form(read("01111110"))), "-01 + 01- + 1-0")


if __name__ == "__main__":
    unittest.main()
