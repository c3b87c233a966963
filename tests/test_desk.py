import random
import unittest

from helpers import (POINTS, TERMS, all_functions, crowded_functions, least_of, odd_lists, ones, read, refusal_of,
                     slow_forms, slow_good, slow_greatest, some_functions, switches, text_of, things)
from leastterms.desk import Desk
from leastterms.errors import NoDeed, NoLine, NoPoint, NoTerm

QUESTIONS = ("shown", "greatest", "needed", "least", "many")


def desk_with(function):
    desk = Desk()
    assert desk.say(f"function {text_of(function)}") == "ok"
    return desk


def wanted_answers(function):
    """The answers to all questions, the slow way."""
    terms = slow_greatest(function)
    form, many = least_of(slow_forms(function, terms))
    holders = [[term for term in terms if point in POINTS[term]] for point in ones(function)]
    alone = sorted({held_by[0] for held_by in holders if len(held_by) == 1})
    return {
        "shown": text_of(function), "greatest": " ".join(terms) or "none", "needed": " ".join(alone) or "none",
        "least": " + ".join(form) or "none", "many": str(many),
    }


def answers(desk):
    return {question: desk.say(question) for question in QUESTIONS}


class Questions(unittest.TestCase):
    def test_at_first(self):
        desk = Desk()
        self.assertEqual(answers(desk), {"shown": "00", "greatest": "none", "needed": "none", "least": "none", "many": "1"})
        self.assertEqual([desk.say(f"good {term}") for term in "01-"], ["no", "no", "no"])
        self.assertIs(refusal_of(desk.say, "back"), NoDeed)

    def test_of_many_functions(self):
        for function in all_functions(1) + all_functions(2) + some_functions(3, 60) + some_functions(4, 30):
            desk = desk_with(function)
            told = answers(desk)
            self.assertEqual(told, wanted_answers(function))
            self.assertTrue(all(type(answer) is str for answer in told.values()))

    def test_written_out(self):
        desk = desk_with(read("01111110"))
        self.assertEqual(desk.say("shown"), "01111110")
        self.assertEqual(desk.say("greatest"), "-01 -10 0-1 01- 1-0 10-")
        self.assertEqual(desk.say("needed"), "none")
        self.assertEqual(desk.say("least"), "-01 + 01- + 1-0")
        self.assertEqual(desk.say("many"), "2")
        desk = desk_with((0, 1, None, 1))
        self.assertEqual(answers(desk), {
            "shown": "01-1", "greatest": "-1 1-", "needed": "-1", "least": "-1", "many": "1"})

    def test_good(self):
        for function in all_functions(1) + all_functions(2)[::3] + some_functions(3, 12) + some_functions(4, 6):
            desk = desk_with(function)
            n = switches(function)
            good = slow_good(function)
            for term in TERMS[n]:
                self.assertEqual(desk.say(f"good {term}"), "yes" if term in good else "no")

    def test_no_term(self):
        for n in range(1, 5):
            desk = desk_with((1,) * 2 ** n)
            wrong = [term for other in range(1, 5) if other != n for term in TERMS[other]]
            wrong += ["x", "none", "T", "-" * 5, "0" * 40, "2" * n, "0" * (n - 1) + "x", "\n", "0\n", "\t", "+", "good"]
            wrong += ["\u2212" * n, "\u0660" * n, "00,", "(0)", "yes", "_" * n, "0\t" * n]
            for term in wrong:
                self.assertIs(refusal_of(desk.say, f"good {term}"), NoTerm, term)
            self.assertEqual(desk.say("back"), "ok")
            self.assertIs(refusal_of(desk.say, "back"), NoDeed)


class Deeds(unittest.TestCase):
    def test_a_function(self):
        for function in all_functions(1) + all_functions(2)[::5] + some_functions(3, 12) + some_functions(4, 12):
            desk = Desk()
            self.assertEqual(desk.say(f"function {text_of(function)}"), "ok")
            self.assertEqual(desk.say("shown"), text_of(function))
            self.assertEqual(desk.say("back"), "ok")
            self.assertEqual(desk.say("shown"), "00")

    def test_each_answer_at_each_point(self):
        for function in some_functions(1, 3) + some_functions(2, 4) + some_functions(3, 4) + some_functions(4, 4):
            text = text_of(function)
            for point in range(len(function)):
                for word, sign in (("one", "1"), ("free", "-"), ("nought", "0")):
                    desk = desk_with(function)
                    self.assertEqual(desk.say(f"{word} {point}"), "ok")
                    after = text[:point] + sign + text[point + 1:]
                    self.assertEqual(desk.say("shown"), after)
                    self.assertEqual(answers(desk), wanted_answers(read(after)))
                    self.assertEqual(desk.say("back"), "ok")
                    self.assertEqual(desk.say("shown"), text)

    def test_no_point(self):
        for n in range(1, 5):
            desk = desk_with((0, 1) * 2 ** (n - 1))
            for word in ("one", "free", "nought"):
                for point in (2 ** n, 2 ** n + 1, 17, 20, 100, 10 ** 29, 10 ** 3000):
                    self.assertIs(refusal_of(desk.say, f"{word} {point}"), NoPoint, point)
                # More figures than Python reads.
                self.assertIs(refusal_of(desk.say, f"{word} " + "9" * 6000), NoPoint)
            self.assertEqual(desk.say("shown"), "01" * 2 ** (n - 1))
            self.assertEqual(desk.say("back"), "ok")
            self.assertIs(refusal_of(desk.say, "back"), NoDeed)

    def test_no_number(self):
        for n in range(1, 5):
            desk = desk_with((0, 1) * 2 ** (n - 1))
            for word in ("one", "free", "nought"):
                for wrong in ("00", "01", "007", "-1", "-0", "+1", "1.0", "1.", "x", "1x", "x1", "0x1", "1_0", "none", "one",
                              "\u0661", "\u00b2", "1\n", "\n1", "\t1", "1,", "0" * 6000, "1e0", "True", "None", "()",
                              "-", "9-", "0-", "1\u0660", "99\n", "099", "0099x", "\uff11"):
                    self.assertIs(refusal_of(desk.say, f"{word} {wrong}"), NoLine, wrong)
            self.assertEqual(desk.say("shown"), "01" * 2 ** (n - 1))

    def test_no_function(self):
        desk = desk_with(read("0110"))
        for wrong in ("0", "011", "01101", "0" * 32, "012-", "x", "01x0", "0110\n", "\t0110", "none", "(0,1)", "0,1", "o1",
                      "\u06600", "0\u2212", "function", "NONE", "--1", "0_1_"):
            self.assertIs(refusal_of(desk.say, f"function {wrong}"), NoLine, wrong)
        self.assertEqual(desk.say("shown"), "0110")
        self.assertEqual(desk.say("back"), "ok")
        self.assertIs(refusal_of(desk.say, "back"), NoDeed)

    def test_back_undoes_the_last_deed_that_stands(self):
        desk = Desk()
        lines = ("one 1", "function 0-11", "nought 3", "free 0", "one 0", "one 0", "function 01111110", "one 7")
        stands = ["00"]
        for line in lines:
            self.assertEqual(desk.say(line), "ok")
            stands.append(desk.say("shown"))
        self.assertEqual(stands, ["00", "01", "0-11", "0-10", "--10", "1-10", "1-10", "01111110", "01111111"])
        while len(stands) > 5:
            self.assertEqual(desk.say("shown"), stands.pop())
            self.assertEqual(desk.say("back"), "ok")
        self.assertEqual(desk.say("function 10"), "ok")
        self.assertEqual(desk.say("back"), "ok")
        while len(stands) > 1:
            self.assertEqual(desk.say("shown"), stands.pop())
            self.assertEqual(desk.say("back"), "ok")
        self.assertEqual(desk.say("shown"), "00")
        for _ in range(3):
            self.assertIs(refusal_of(desk.say, "back"), NoDeed)
            self.assertEqual(desk.say("shown"), "00")

    def test_a_deed_that_leaves_all_as_it_was_is_one(self):
        desk = Desk()
        for line in ("function 00", "nought 0", "nought 1"):
            self.assertEqual(desk.say(line), "ok")
        for _ in range(3):
            self.assertEqual(desk.say("shown"), "00")
            self.assertEqual(desk.say("back"), "ok")
        self.assertIs(refusal_of(desk.say, "back"), NoDeed)

    def test_questions_are_no_deeds(self):
        desk = desk_with((0, 1))
        for line in QUESTIONS + ("good 1", "good 0"):
            self.assertEqual(desk.say(line), desk.say(line))
        self.assertEqual(desk.say("back"), "ok")
        self.assertEqual(desk.say("shown"), "00")
        self.assertIs(refusal_of(desk.say, "back"), NoDeed)


def no_lines():
    """Things that are no line of a desk."""
    singles = ("back",) + QUESTIONS
    pairs = ("function 01", "one 1", "free 1", "nought 1", "good 1")
    told = ["", " ", "  ", "\n", "x", "help", "good", "one", "free", "nought", "function", "none", "ok", "0", "01", "1 one"]
    for line in singles + pairs:
        told += [" " + line, line + " ", "  " + line, line + "  ", "\t" + line, line.upper(), line.title(), "x " + line]
        told += [line + " 1 1", line + " x y", line[1:], "_" + line, line.encode(), [line], (line,), {line: line}, line.split()]
    for line in singles:
        told += [line + "\n", line[:-1], line + "s", line + " 1", line + " 01", line + " x", f"{line} {line}", line + " none"]
    for line in pairs:
        first, last = line.split()
        told += [first, first + " ", f"{first}  {last}", f"{first}   {last}", f"{first}\t{last}", f"{first}\n{last}"]
        told += [line + " x", f"{line} {last}", f"{last} {first}", first + last, f"{first},{last}", f"{first}s {last}"]
        told += [f"{first}: {last}", f" {first}  {last}", f"{first}\u00a0{last}", f"{first[:-1]} {last}"]
    return told + things() + odd_lists()


class NoLines(unittest.TestCase):
    def test_no_line(self):
        for function in ((0, 0), (0, 1), read("01-1"), (1,) * 16):
            desk = desk_with(function)
            for line in no_lines():
                self.assertIs(refusal_of(desk.say, line), NoLine, line)
                self.assertEqual(desk.say("shown"), text_of(function), line)
            self.assertEqual(desk.say("back"), "ok")
            self.assertIs(refusal_of(desk.say, "back"), NoDeed)

    def test_no_line_at_first(self):
        for line in no_lines():
            self.assertIs(refusal_of(Desk().say, line), NoLine, line)

    def test_what_is_refused_is_no_deed(self):
        desk = Desk()
        for line in ("one 1", "free 0"):
            self.assertEqual(desk.say(line), "ok")
        for line, refusal in (("one 2", NoPoint), ("good 00", NoTerm), ("function 0", NoLine), ("nought 01", NoLine)):
            self.assertIs(refusal_of(desk.say, line), refusal)
        self.assertEqual(desk.say("shown"), "-1")
        self.assertEqual(desk.say("back"), "ok")
        for line, refusal in (("free 16", NoPoint), ("good x", NoTerm), ("function", NoLine), ("back 1", NoLine)):
            self.assertIs(refusal_of(desk.say, line), refusal)
        self.assertEqual(desk.say("shown"), "01")
        self.assertEqual(desk.say("back"), "ok")
        self.assertIs(refusal_of(desk.say, "back"), NoDeed)


class Desks(unittest.TestCase):
    def test_two_desks_beside_one_another(self):
        one, other = Desk(), Desk()
        self.assertEqual(one.say("function 0110"), "ok")
        self.assertEqual((one.say("shown"), other.say("shown")), ("0110", "00"))
        self.assertIs(refusal_of(other.say, "back"), NoDeed)
        self.assertEqual(other.say("one 1"), "ok")
        self.assertIs(refusal_of(other.say, "one 3"), NoPoint)
        self.assertEqual(one.say("one 3"), "ok")
        self.assertEqual((one.say("shown"), other.say("shown")), ("0111", "01"))
        self.assertEqual(one.say("back"), "ok")
        self.assertEqual((one.say("shown"), other.say("shown")), ("0110", "01"))
        self.assertEqual(Desk().say("shown"), "00")

    def test_a_desk_hangs_on_the_deeds_that_stand_alone(self):
        source = random.Random(5)
        functions = [text_of(function) for function in some_functions(3, 9) + some_functions(2, 9) + [(0, 1)]]
        for _ in range(40):
            desk, standing = Desk(), []
            for _ in range(source.randrange(30)):
                line = source.choice((
                    "back", "back", "one", "free", "nought", f"function {source.choice(functions)}", "least", "x", "good 0"))
                if line in ("one", "free", "nought"):
                    line = f"{line} {source.randrange(10)}"
                refused = refusal_of(desk.say, line)
                if refused is None and line == "back":
                    standing.pop()
                elif refused is None and line not in ("least", "good 0"):
                    standing.append(line)
            again = Desk()
            for line in standing:
                self.assertEqual(again.say(line), "ok")
            self.assertEqual(answers(again), answers(desk), standing)
            for _ in standing:
                self.assertEqual(desk.say("back"), "ok")
            self.assertEqual(desk.say("shown"), "00")
            self.assertIs(refusal_of(desk.say, "back"), NoDeed)

    def test_of_four_switches(self):
        for function in crowded_functions()[:6]:
            self.assertEqual(answers(desk_with(function)), wanted_answers(function))


if __name__ == "__main__":
    unittest.main()
