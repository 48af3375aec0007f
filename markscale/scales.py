"""Scales: the exact place of a cell, and what has a place."""

from markscale.makes import greatest_of, least_of
from markscale.numbers import floor_of, minus, number, over, plus, rounded, times, under


def straight_place(one, lo, hi, begin, end):
    """The place of a number from lo to hi, of a stretch of places from begin to end."""
    part = over(minus(one, lo), minus(hi, lo))
    return plus(number(begin), times(part, number(end - begin)))


def straight_back(place, lo, hi, begin, end):
    """The number that has a place from begin to end, where lo has the begin and hi the end."""
    part = over(minus(place, number(begin)), number(end - begin))
    return plus(lo, times(part, minus(hi, lo)))


def is_within(one, lo, hi):
    """Whether a number is neither less than lo nor above hi."""
    return not under(one, lo) and not under(hi, one)


def straight_ends(numbers):
    """The tuple of the ends, unlike ones, between which numbers lie."""
    if numbers == []:
        return (number(0), number(1))
    lo = least_of(numbers)
    hi = greatest_of(numbers)
    return (lo, plus(lo, number(1)) if lo == hi else hi)


def power_of(base, exponent):
    """The base to a whole power, also one below 0, as a number."""
    product = 1
    for turn in range(abs(exponent)):
        product = product * base
    return number(product) if exponent >= 0 else number(1, product)


def power_below(base, one):
    """The number of the greatest power of the base that is not above a number above 0."""
    top = one[0]
    bottom = one[1]
    exponent = 0
    while bottom * base <= top:
        bottom = bottom * base
        exponent += 1
    while top < bottom:
        top = top * base
        exponent -= 1
    return exponent


def place_on_straight(scale, cell):
    """The place of a number on a straight scale."""
    if not is_within(cell, scale[1], scale[2]):
        return "outside"
    return straight_place(cell, scale[1], scale[2], 0, scale[3])


def place_on_turns(scale, cell):
    """The place of a number on a scale of turns."""
    base = scale[1]
    if cell[0] <= 0:
        return "nought"
    exponent = power_below(base, cell)
    turns = exponent - scale[2]
    if turns < 0 or turns > scale[3]:
        return "outside"
    power = power_of(base, exponent)
    part = over(minus(cell, power), times(power, number(base - 1)))
    # Behind the last power there is no further stretch in which a cell could go straight.
    if turns == scale[3] and part[0] != 0:
        return "outside"
    return times(plus(number(turns), part), number(scale[4], scale[3]))


def place_on_broken(scale, cell):
    """The place of a number on a broken scale."""
    pieces = scale[1]
    for piece in pieces:
        if is_within(cell, piece[0], piece[1]):
            return straight_place(cell, piece[0], piece[1], piece[2], piece[3])
    return "gap" if is_within(cell, pieces[0][0], pieces[-1][1]) else "outside"


def place_on_days(scale, cell):
    """The place of a day on a scale of days."""
    if not scale[1] <= cell <= scale[2]:
        return "outside"
    return number((cell - scale[1]) * scale[3], scale[2] - scale[1])


def place_on_order(scale, cell):
    """The place of a word on an order: amid its stretch."""
    if cell not in scale[1]:
        return "unknown"
    return number((2 * scale[1].index(cell) + 1) * scale[2], 2 * len(scale[1]))


def place_on(scale, cell):
    """The place of a cell, or a text that tells why it has none."""
    if cell is None:
        return "nothing"
    if scale[0] == "straight":
        return place_on_straight(scale, cell)
    if scale[0] == "turns":
        return place_on_turns(scale, cell)
    if scale[0] == "broken":
        return place_on_broken(scale, cell)
    if scale[0] == "days":
        return place_on_days(scale, cell)
    return place_on_order(scale, cell)


def read_on_turns(scale, place):
    """The number that has a place on a scale of turns."""
    along = times(place, number(scale[3], scale[4]))
    turns = floor_of(along)
    part = minus(along, number(turns))
    power = power_of(scale[1], scale[2] + turns)
    return times(power, plus(number(1), times(part, number(scale[1] - 1))))


def read_on_broken(scale, place):
    """The number that has a place on a broken scale, or None between two pieces."""
    for piece in scale[1]:
        if is_within(place, number(piece[2]), number(piece[3])):
            return straight_back(place, piece[0], piece[1], piece[2], piece[3])
    return None


def read_on(scale, place):
    """The number that has a place, or None where none has; days are told as numbers, words not at all."""
    if scale[0] == "straight":
        return straight_back(place, scale[1], scale[2], 0, scale[3])
    if scale[0] == "turns":
        return read_on_turns(scale, place)
    if scale[0] == "broken":
        return read_on_broken(scale, place)
    if scale[0] == "days":
        return straight_back(place, number(scale[1]), number(scale[2]), 0, scale[3])
    return None


def stretch_on(scale, word):
    """The two places between which a word of an order has its stretch."""
    at = scale[1].index(word)
    many = len(scale[1])
    return (number(at * scale[2], many), number((at + 1) * scale[2], many))


def words_at(scale, along):
    """The words of an order whose places are rounded to a whole number."""
    return [word for word in scale[1] if rounded(place_on(scale, word)) == along]
