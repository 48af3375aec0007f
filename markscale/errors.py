"""The refusals: one class for each, all straight under MarkError."""


class MarkError(ValueError):
    """Any refusal of the program."""


class NoNumber(MarkError):
    """What was handed in makes or writes no number."""


class NoDay(MarkError):
    """What was handed in makes or writes no day."""


class NoTable(MarkError):
    """No table; row is the number of the first bad row, None where the fault lies ahead of the rows."""

    def __init__(self, row):
        self.row = row


class NoPlan(MarkError):
    """No plan; step is the number of the first bad step, None where there is no list of them."""

    def __init__(self, step):
        self.step = step


class NoSpace(MarkError):
    """There is no room for what is to be drawn."""


class NoTelling(MarkError):
    """No telling; part is the name of the first bad part, None where there is no such tuple."""

    def __init__(self, part):
        self.part = part


class TooMany(MarkError):
    """A kind has more tables than are gone through."""


class NoRow(MarkError):
    """What was said to the desk is no row that it knows."""


class NoName(MarkError):
    """A name is no word, or nothing stands by it."""
