"""A desk: it has a function, and is told deeds and questions, line by line."""

from leastterms.errors import NoDeed, NoLine, NoPoint
from leastterms.forms import least_form, least_many
from leastterms.greatest import greatest, is_good
from leastterms.needs import needed
from leastterms.texts import form_text, function_text, is_function_text, read_function

FIGURES = "0123456789"
ANSWER_BY_WORD = {"one": 1, "free": None, "nought": 0}


def terms_text(terms):
    """The terms with one blank between two."""
    return " ".join(terms) if terms else "none"


def say_shown(function):
    """The function as it is written."""
    return function_text(function)


def say_greatest(function):
    """The greatest terms."""
    return terms_text(greatest(function))


def say_needed(function):
    """The needed terms."""
    return terms_text(needed(function))


def say_least(function):
    """The least form as it is written."""
    return form_text(least_form(function))


def say_many(function):
    """How many forms are as short as the least one."""
    return str(least_many(function))


QUESTIONS = {
    "shown": say_shown,
    "greatest": say_greatest,
    "needed": say_needed,
    "least": say_least,
    "many": say_many,
}


def words_of(line):
    """The words of a line, each of one sign or more."""
    words = line.split(" ") if isinstance(line, str) else [""]
    if "" in words:
        raise NoLine("a line is a text of words with one blank between two")
    return words


def read_point(function, word):
    """The point of the function that is written as the word."""
    written = [str(point) for point in range(len(function))]
    if word in written:
        return written.index(word)
    # Only looked at as a text: a number may have more figures than int would read.
    if word[0] == "0" or not all([sign in FIGURES for sign in word]):
        raise NoLine("a point is written in figures, without a nought ahead")
    raise NoPoint("the function has no such point")


def deed_done(function, deed, word):
    """The function that there is when the deed of two words is done."""
    if deed == "function" and is_function_text(word):
        return read_function(word)
    if deed in ANSWER_BY_WORD:
        point = read_point(function, word)
        return function[:point] + (ANSWER_BY_WORD[deed],) + function[point + 1:]
    raise NoLine("no such line is known")


class Desk:
    """A desk with a function, (0, 0) at first."""

    def __init__(self):
        # The function at first, and behind it the one of each deed that stands.
        self.stands = [(0, 0)]

    def say(self, line):
        """Answer the line, or refuse it."""
        words = words_of(line)
        if len(words) == 1:
            return self.say_alone(words[0])
        if len(words) == 2:
            return self.say_of(words[0], words[1])
        raise NoLine("no line has so many words")

    def say_alone(self, word):
        """Answer a line of one word."""
        if word == "back":
            return self.undo()
        if word not in QUESTIONS:
            raise NoLine("no such line is known")
        question = QUESTIONS[word]
        return question(self.stands[-1])

    def say_of(self, first, word):
        """Answer a line of two words."""
        if first == "good":
            return "yes" if is_good(self.stands[-1], word) else "no"
        self.stands.append(deed_done(self.stands[-1], first, word))
        return "ok"

    def undo(self):
        """Undo the last deed that stands."""
        if len(self.stands) == 1:
            raise NoDeed("no deed stands")
        self.stands.pop()
        return "ok"
