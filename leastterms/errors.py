"""The refusals: each is made with a text that says what was wrong."""


class TermError(ValueError):
    """Any refusal."""


class NoFunction(TermError):
    """What is handed in is no function."""


class NoTerm(TermError):
    """What is handed in is no term that is let there."""


class NoPoint(TermError):
    """What is handed in is no point, or no list of points, that is let there."""


class NoNumber(TermError):
    """What is handed in is no number that is let there."""


class NoForm(TermError):
    """What is handed in is no form of the function."""


class NoChange(TermError):
    """What is handed in is no change of the switches."""


class NoText(TermError):
    """What is handed in is no text that can be read."""


class NoLine(TermError):
    """What is handed in is no line that a desk knows."""


class NoDeed(TermError):
    """There is no deed that could be undone."""
