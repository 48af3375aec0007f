"""Fields: where places are put on the sheet, and which items have none."""

from markscale.numbers import minus, number, over, plus, rounded
from markscale.scales import place_on, stretch_on

TENTH = 10


def put_x(field, place):
    """Where a place of x is put."""
    return field[2] + rounded(place)


def put_y(field, place):
    """Where a place of y is put: the sheet is counted from the top, the scale from the bottom."""
    return field[3] + field[5] - rounded(place)


def place_of(field, item, channel):
    """The exact place of an item's x, y or other, or a text that tells why it has none."""
    if channel == "x":
        return place_on(field[0], item[1])
    return place_on(field[1], item[2] if channel == "y" else item[3])


def x_of(field, item):
    """Where an item's x is put."""
    return put_x(field, place_of(field, item, "x"))


def y_of(field, item):
    """Where an item's y is put."""
    return put_y(field, place_of(field, item, "y"))


def bar_ends(field, word):
    """The tuple (x0, x1) of where a bar of a word begins and ends: a tenth within the word's stretch."""
    stretch = stretch_on(field[0], word)
    tenth = over(minus(stretch[1], stretch[0]), number(TENTH))
    return (put_x(field, plus(stretch[0], tenth)), put_x(field, minus(stretch[1], tenth)))


def base_on(scale):
    """The place on which bars stand: that of 0, or the scale's begin where 0 has none."""
    place = place_on(scale, number(0))
    return number(0) if isinstance(place, str) else place


def loss_of(field, item, channels):
    """The tuple (number, channel, reason) of the first channel at which an item has no place, or None."""
    for channel in channels:
        place = place_of(field, item, channel)
        if isinstance(place, str):
            return (item[0], channel, place)
    return None


def parted(field, items, channels):
    """The tuple (standing, lost): the items that have a place at each channel, and what is told of the others."""
    standing = []
    lost = []
    for item in items:
        loss = loss_of(field, item, channels)
        if loss is None:
            standing.append(item)
        else:
            lost.append(loss)
    return (standing, lost)


def by_word(field, items):
    """The lists of items of one word of x, of words that have any, in the scale's order."""
    groups = [[item for item in items if item[1] == word] for word in field[0][1]]
    return [group for group in groups if group]


def by_rank(items):
    """The lists of items of one rank and colour, by rising (rank, colour)."""
    groups = {}
    for item in items:
        groups.setdefault((item[4], item[5]), []).append(item)
    return [groups[look] for look in sorted(groups)]
