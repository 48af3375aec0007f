"""Numbers as texts: -3/4, 12."""

from markscale.errors import NoNumber
from markscale.numbers import is_number, number

DIGITS = "0123456789"
MOST_FIGURES = 60
MOST_BOTTOM = 60


def are_digits(text):
    """Whether a text has a sign at least and each of them is a digit."""
    return text != "" and all([sign in DIGITS for sign in text])


def show_number(one):
    """The text that writes a number."""
    top = one[0]
    bottom = one[1]
    if bottom == 1:
        return f"{top}"
    return f"{top}/{bottom}"


def read_figures(text, most):
    """The number that a text writes in at most so many figures above and below."""
    if not isinstance(text, str):
        raise NoNumber("a number is read of a text")
    parts = text.split("/")
    figures = [parts[0][1:] if parts[0].startswith("-") else parts[0]] + parts[1:]
    if not all([are_digits(part) and len(part) <= most for part in figures]):
        raise NoNumber("a number is written in figures, and not too many")
    one = number(int(parts[0])) if len(parts) == 1 else number(int(parts[0]), int(parts[1]))
    # Each number is written in one way: a nought ahead, -0, a bottom of 1, a common divisor make another text.
    if show_number(one) != text:
        raise NoNumber("the number is written otherwise")
    return one


def read_number(text):
    """The number that a text writes."""
    return read_figures(text, MOST_FIGURES)


def is_told(thing):
    """Whether a thing is a number of at most eighteen figures above and a bottom of at most 60."""
    return is_number(thing) and abs(thing[0]) < 10 ** 18 and thing[1] <= MOST_BOTTOM
