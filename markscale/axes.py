"""Axes: the scale that a wish makes of cells and a length, and the ticks on it whose labels fit."""

from markscale.days import month_begin, month_of, show_day
from markscale.errors import NoSpace
from markscale.figures import show_number
from markscale.makes import greatest_of, least_of, sum_of
from markscale.numbers import floor_of, minus, number, over, rounded, times, under
from markscale.scales import place_on, power_below, power_of, straight_ends
from markscale.wishes import MOST_WORDS, words_wished

SIGN_WIDTH = 6
WIDEST_LABEL = 60
LEAST_UPRIGHT = 12
ROOM_BESIDE = 6
ROOM_ON_PIECE = 12
BETWEEN_PIECES = 6
MOST_TURNS = 40
FARTHEST_POWER = 200
NO_CELLS_DAYS = (730119, 730120)
DAY_STEPS = (("days", 1), ("days", 7), ("months", 1), ("months", 3), ("months", 12), ("months", 120),
             ("months", 1200), ("months", 12000))


def widest_of(labels):
    """How many places the widest label takes."""
    return max([SIGN_WIDTH * len(label) for label in labels], default=0)


def labels_fit(labels, gap, way):
    """Whether ticks that are a gap apart have room for their labels."""
    if way == "upright":
        return not under(gap, number(LEAST_UPRIGHT))
    widest = widest_of(labels)
    return widest <= WIDEST_LABEL and not under(gap, number(ROOM_BESIDE + widest))


def with_ticks(scale, cells, labels):
    """The axis of a scale with a tick for each of these cells."""
    return (scale, [(rounded(place_on(scale, cell)), label) for cell, label in zip(cells, labels)])


def ceiling_of(one):
    """The least whole number that is not below a number."""
    return -floor_of(minus(number(0), one))


def round_steps(least, most):
    """The round steps by size, from one that is not above least to the last one that is not above most."""
    power = power_of(10, power_below(10, least))
    steps = []
    while not under(most, power):
        steps.extend([times(number(many), power) for many in (1, 2, 5)])
        power = times(number(10), power)
    return [step for step in steps if not under(most, step)]


def straight_by(step, ends, length, way):
    """The straight axis by a step, or None where its labels don't fit."""
    first = floor_of(over(ends[0], step))
    last = ceiling_of(over(ends[1], step))
    gap = number(length, last - first)
    # So many ticks are not even made, where they could not fit without labels.
    if not labels_fit([], gap, way):
        return None
    cells = [times(number(many), step) for many in range(first, last + 1)]
    labels = [show_number(cell) for cell in cells]
    if not labels_fit(labels, gap, way):
        return None
    return with_ticks(("straight", cells[0], cells[-1], length), cells, labels)


def straight_axis(cells, length, way, nought):
    """The straight axis of numbers, by the least round step whose labels fit."""
    ends = straight_ends(cells + [number(0)] if nought else cells)
    span = minus(ends[1], ends[0])
    sizes = [number(1), span, number(abs(ends[0][0]), ends[0][1]), number(abs(ends[1][0]), ends[1][1])]
    for step in round_steps(over(span, number(length)), times(number(10), greatest_of(sizes))):
        axis = straight_by(step, ends, length, way)
        if axis is not None:
            return axis
    raise NoSpace("no round step has labels that fit")


def told_axis(lo, hi, length):
    """The straight axis between two told ends."""
    return with_ticks(("straight", lo, hi, length), [lo, hi], [show_number(lo), show_number(hi)])


def power_above(base, one):
    """The number of the least power of the base that is not below a number above 0."""
    exponent = power_below(base, one)
    return exponent if power_of(base, exponent) == one else exponent + 1


def powers_about(base, cells):
    """The tuple of the numbers of the two powers between which all cells above 0 lie."""
    above = [cell for cell in cells if cell[0] > 0]
    if above == []:
        return (0, 1)
    first = power_below(base, least_of(above))
    return (first, max(first + 1, power_above(base, greatest_of(above))))


def turns_by(many, base, powers, length, way):
    """The axis of turns with a tick at each power whose number is a multiple of many, or None."""
    first = powers[0] // many
    last = -(-powers[1] // many)
    gap = number(length, last - first)
    if first * many < -FARTHEST_POWER or last * many > FARTHEST_POWER or not labels_fit([], gap, way):
        return None
    cells = [power_of(base, many * at) for at in range(first, last + 1)]
    labels = [show_number(cell) for cell in cells]
    if not labels_fit(labels, gap, way):
        return None
    return with_ticks(("turns", base, many * first, many * (last - first), length), cells, labels)


def turns_axis(base, cells, length, way):
    """The axis of turns of numbers, by the least multiple of powers whose labels fit."""
    powers = powers_about(base, cells)
    for many in range(1, MOST_TURNS + 1):
        axis = turns_by(many, base, powers, length, way)
        if axis is not None:
            return axis
    raise NoSpace("no turns have labels that fit")


def shares_of(ends, left):
    """What each piece gets of the places that the gaps leave."""
    spans = [minus(pair[1], pair[0]) for pair in ends]
    total = sum_of(spans)
    shares = [floor_of(over(times(number(left), span), total)) for span in spans[:-1]]
    return shares + [left - sum(shares)]


def pieces_fit(shares, labels, way):
    """Whether each piece has room for the labels at its ends."""
    if way == "upright":
        return min(shares) >= LEAST_UPRIGHT
    widest = widest_of(labels)
    return widest <= WIDEST_LABEL and min(shares) >= ROOM_ON_PIECE + widest


def broken_axis(ends, length, way):
    """The axis of several pieces with a gap between each two."""
    left = length - BETWEEN_PIECES * (len(ends) - 1)
    if left <= 0:
        raise NoSpace("the gaps use the length up")
    shares = shares_of(ends, left)
    pieces = []
    begin = 0
    for pair, share in zip(ends, shares):
        pieces.append((pair[0], pair[1], begin, begin + share))
        begin += share + BETWEEN_PIECES
    labels = []
    places = []
    for piece in pieces:
        labels.extend([show_number(piece[0]), show_number(piece[1])])
        places.extend([piece[2], piece[3]])
    if not pieces_fit(shares, labels, way):
        raise NoSpace("a piece is too short for its labels")
    return (("broken", pieces, length), list(zip(places, labels)))


def days_about(unit, many, least, greatest):
    """The tuple of the first and last multiple, as numbers of a unit, between which two days lie."""
    low = least
    high = greatest
    if unit == "months":
        low = month_of(least)
        high = month_of(greatest)
        if month_begin(high) != greatest:
            high += 1
    first = low // many
    return (many * first, many * max(first + 1, -(-high // many)))


def days_by(unit, many, least, greatest, length, way):
    """The axis of days with a tick at each multiple of many of a unit, or None where its labels don't fit."""
    ends = days_about(unit, many, least, greatest)
    # The least gap is not above the mean one; so many ticks that this can't fit are not even made.
    if not labels_fit([], number(length * many, ends[1] - ends[0]), way):
        return None
    cells = list(range(ends[0], ends[1] + 1, many))
    if unit == "months":
        cells = [month_begin(month) for month in cells]
    shortest = min([other - one for one, other in zip(cells, cells[1:])])
    labels = [show_day(cell) for cell in cells]
    if not labels_fit(labels, number(length * shortest, cells[-1] - cells[0]), way):
        return None
    return with_ticks(("days", cells[0], cells[-1], length), cells, labels)


def days_axis(cells, length, way):
    """The axis of days, by the first step whose labels fit."""
    least = least_of(cells) if cells else NO_CELLS_DAYS[0]
    greatest = greatest_of(cells) if cells else NO_CELLS_DAYS[1]
    for unit, many in DAY_STEPS:
        axis = days_by(unit, many, least, greatest, length, way)
        if axis is not None:
            return axis
    raise NoSpace("no step of days has labels that fit")


def order_axis(words, length, way):
    """The axis of words, with a tick amid the stretch of each."""
    if not 1 <= len(words) <= MOST_WORDS:
        raise NoSpace("an order has one to sixty words")
    # A gap by which labels fit is so wide that no two words have one rounded place.
    if not labels_fit(words, number(length, len(words)), way):
        raise NoSpace("the words don't fit")
    return with_ticks(("order", words, length), words, words)


def axis_for(wish, cells, length, way, nought=False):
    """The tuple (scale, ticks) that a wish makes of cells and a length."""
    if wish[0] == "straight":
        return told_axis(wish[1], wish[2], length) if len(wish) == 3 else straight_axis(cells, length, way, nought)
    if wish[0] == "turns":
        return turns_axis(wish[1], cells, length, way)
    if wish[0] == "broken":
        return broken_axis(wish[1], length, way)
    if wish[0] == "days":
        return days_axis(cells, length, way)
    return order_axis(words_wished(wish, cells), length, way)
