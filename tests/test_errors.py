import unittest

from leastterms import errors

NAMES = ["NoFunction", "NoTerm", "NoPoint", "NoNumber", "NoForm", "NoChange", "NoText", "NoLine", "NoDeed"]


class Errors(unittest.TestCase):
    def test_term_error_is_under_value_error(self):
        self.assertEqual(errors.TermError.__bases__, (ValueError,))
        self.assertEqual(str(errors.TermError("why")), "why")

    def test_each_refusal_is_straight_under_term_error(self):
        for name in NAMES:
            self.assertEqual(getattr(errors, name).__bases__, (errors.TermError,), name)

    def test_none_is_under_another_one(self):
        for name in NAMES:
            for other in NAMES:
                under = issubclass(getattr(errors, name), getattr(errors, other))
                self.assertEqual(under, name == other, (name, other))

    def test_each_is_made_with_a_text(self):
        for name in NAMES:
            with self.assertRaises(ValueError) as caught:
                raise getattr(errors, name)("some text")
            self.assertEqual(str(caught.exception), "some text")
            self.assertIs(type(caught.exception), getattr(errors, name))


if __name__ == "__main__":
    unittest.main()
