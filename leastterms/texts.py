"""Functions and forms as texts, written and read."""

from leastterms.checks import need_switches
from leastterms.errors import NoText
from leastterms.functions import SWITCHES_BY_POINTS, need_function
from leastterms.terms import has_rising_terms

SIGN_BY_ANSWER = {0: "0", 1: "1", None: "-"}
ANSWER_BY_SIGN = {"0": 0, "1": 1, "-": None}
NO_TERMS = "none"


def function_text(function):
    """The answers of a function side by side, - where it is free."""
    need_function(function)
    return "".join([SIGN_BY_ANSWER[answer] for answer in function])


def form_text(form):
    """The terms of a form with a plus between two."""
    return " + ".join(form) if form else NO_TERMS


def is_function_text(thing):
    """Whether a function is written as the thing."""
    if not isinstance(thing, str) or len(thing) not in SWITCHES_BY_POINTS:
        return False
    return all([sign in ANSWER_BY_SIGN for sign in thing])


def read_function(text):
    """The function that is written as the text."""
    if not is_function_text(text):
        raise NoText("a function is written as 2, 4, 8 or 16 signs 0, 1 or -, side by side")
    return tuple([ANSWER_BY_SIGN[sign] for sign in text])


def read_form(n, text):
    """The rising tuple of terms of n that is written as the text."""
    need_switches(n)
    if not isinstance(text, str):
        raise NoText("only a text is read")
    if text == NO_TERMS:
        return ()
    terms = tuple(text.split(" + "))
    if not has_rising_terms(n, terms):
        raise NoText("a form is written as its rising terms of the n switches with a plus between two")
    return terms
