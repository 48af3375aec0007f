"""Axes read back: the scale that an axis's word and ticks show, and the stretch that a whole place on it tells."""

from markscale.days import read_day
from markscale.errors import NoDay, NoNumber
from markscale.figures import read_figures
from markscale.numbers import is_whole, number, under
from markscale.scales import power_below, power_of, read_on, words_at
from markscale.tables import are_unlike, is_word
from markscale.wishes import MOST_PIECES, MOST_WORDS

LONGEST = 4000
FARTHEST_LOW = 200
MOST_STRETCHES = 400
# An axis writes powers of many more figures than a table's cells have; Python itself reads a few thousand.
MOST_LABEL_FIGURES = 4000
BASES = {"turns 2": 2, "turns 10": 10}
AXIS_WORDS = ("straight", "turns 2", "turns 10", "broken", "days", "order")


def cell_read(word, text):
    """The number, day or word that a label of an axis of that word writes, or None where it writes none."""
    if word == "order":
        return text if is_word(text) else None
    try:
        return read_day(text) if word == "days" else read_figures(text, MOST_LABEL_FIGURES)
    except (NoDay, NoNumber):
        return None


def straight_read(cells, length):
    """The straight scale from the first number to the last one, or None where they don't rise."""
    return ("straight", cells[0], cells[-1], length) if under(cells[0], cells[-1]) else None


def days_read(cells, length):
    """The scale from the first day to the last one, or None where they don't rise."""
    return ("days", cells[0], cells[-1], length) if cells[0] < cells[-1] else None


def power_number(base, one):
    """The number of the power of the base that a number is, or None."""
    if one[0] <= 0:
        return None
    exponent = power_below(base, one)
    return exponent if power_of(base, exponent) == one else None


def turns_read(base, cells, length):
    """The scale of turns from the first power to the last one, or None."""
    first = power_number(base, cells[0])
    last = power_number(base, cells[-1])
    if first is None or last is None:
        return None
    if abs(first) > FARTHEST_LOW or not 1 <= last - first <= MOST_STRETCHES:
        return None
    return ("turns", base, first, last - first, length)


def pieces_rise(pieces):
    """Whether each piece rises, and stands above the one ahead."""
    if not all([under(piece[0], piece[1]) and piece[2] < piece[3] for piece in pieces]):
        return False
    return all([under(one[1], other[0]) and one[3] < other[2] for one, other in zip(pieces, pieces[1:])])


def broken_read(cells, places, length):
    """The broken scale of a piece from each two ticks, or None."""
    if len(cells) % 2 == 1 or not 2 <= len(cells) // 2 <= MOST_PIECES or not all([is_whole(place) for place in places]):
        return None
    pieces = [(cells[at], cells[at + 1], places[at], places[at + 1]) for at in range(0, len(cells), 2)]
    if places[0] != 0 or places[-1] != length or not pieces_rise(pieces):
        return None
    return ("broken", pieces, length)


def order_read(words, length):
    """The order of words, or None where they are too many or not unlike."""
    return ("order", words, length) if len(words) <= MOST_WORDS and are_unlike(words) else None


def scale_read(word, ticks, length):
    """The scale that an axis's word and its ticks show over a length, or None where they show none."""
    if not isinstance(word, str) or word not in AXIS_WORDS or ticks == []:
        return None
    if not is_whole(length) or not 1 <= length <= LONGEST:
        return None
    cells = [cell_read(word, tick[1]) for tick in ticks]
    if any([cell is None for cell in cells]):
        return None
    if word == "straight":
        return straight_read(cells, length)
    if word == "days":
        return days_read(cells, length)
    if word == "order":
        return order_read(cells, length)
    if word == "broken":
        return broken_read(cells, [tick[0] for tick in ticks], length)
    return turns_read(BASES[word], cells, length)


def ends_about(scale, along):
    """The first and last place of what a whole place stands on: of a broken scale its piece, else all of it."""
    if scale[0] == "broken":
        for piece in scale[1]:
            if piece[2] <= along <= piece[3]:
                return (piece[2], piece[3])
    return (0, scale[-1])


def stretch_read(scale, along):
    """What a whole place on a scale tells back: a stretch of numbers, or words."""
    if scale[0] == "order":
        return ("among", words_at(scale, along))
    ends = ends_about(scale, along)
    low = number(max(2 * along - 1, 2 * ends[0]), 2)
    high = number(min(2 * along + 1, 2 * ends[1]), 2)
    return ("between", read_on(scale, low), read_on(scale, high))
