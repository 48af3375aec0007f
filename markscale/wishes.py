"""Wishes: scales as they are asked for, ahead of any cells and lengths."""

from markscale.figures import is_told
from markscale.numbers import is_whole, under
from markscale.tables import are_unlike, is_word

BASES = (2, 10)
MOST_PIECES = 4
MOST_WORDS = 60


def are_ends(lo, hi):
    """Whether two things are told numbers, the first less than the second."""
    return is_told(lo) and is_told(hi) and under(lo, hi)


def is_piece(thing):
    """Whether a thing is a tuple of the two ends of a piece."""
    return isinstance(thing, tuple) and len(thing) == 2 and are_ends(thing[0], thing[1])


def are_pieces(thing):
    """Whether a thing is a tuple of two to four pieces, each above the one ahead."""
    if not isinstance(thing, tuple) or not 2 <= len(thing) <= MOST_PIECES:
        return False
    if not all([is_piece(piece) for piece in thing]):
        return False
    return all([under(one[1], other[0]) for one, other in zip(thing, thing[1:])])


def are_words(thing):
    """Whether a thing is a tuple of one to sixty unlike words."""
    if not isinstance(thing, tuple) or not 1 <= len(thing) <= MOST_WORDS:
        return False
    return all([is_word(word) for word in thing]) and are_unlike(thing)


def is_wish(thing):
    """Whether a thing is a scale as it is wished."""
    if not isinstance(thing, tuple) or not 1 <= len(thing) <= 3 or not isinstance(thing[0], str):
        return False
    if len(thing) == 1:
        return thing[0] in ("straight", "days", "order")
    if len(thing) == 3:
        return thing[0] == "straight" and are_ends(thing[1], thing[2])
    if thing[0] == "turns":
        return is_whole(thing[1]) and thing[1] in BASES
    if thing[0] == "broken":
        return are_pieces(thing[1])
    return thing[0] == "order" and are_words(thing[1])


def axis_word(wish):
    """The word by which a drawing tells what kind of axis a wish makes."""
    if wish[0] == "turns":
        base = wish[1]
        return f"turns {base}"
    return wish[0]


def kind_wished(wish):
    """The kind of cells that go with a wish."""
    if wish[0] == "days":
        return "day"
    return "word" if wish[0] == "order" else "number"


def words_wished(wish, cells):
    """The words of an order, told by the wish or in the order of their first coming among cells that are there."""
    if len(wish) == 2:
        return list(wish[1])
    words = {}
    for cell in cells:
        words[cell] = True
    return list(words)
