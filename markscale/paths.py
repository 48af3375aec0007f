"""Marks that go through the items of a rank and colour along x: lines and bands."""

from markscale.fields import by_rank, parted, place_of, put_y, x_of
from markscale.numbers import common_bottom


def along_x(field, items):
    """The items by rising exact places of x, then by their numbers."""
    places = [place_of(field, item, "x") for item in items]
    # Over one bottom the tops alone tell which place is less; numbers are unlike, so items are never compared.
    bottom = common_bottom(places)
    tops = [place[0] * (bottom // place[1]) for place in places]
    return [entry[2] for entry in sorted([(top, item[0], item) for top, item in zip(tops, items)])]


def point_of(field, item, channels):
    """The point of an item: its x, and what is put of each of these channels."""
    return tuple([x_of(field, item)] + [put_y(field, place_of(field, item, channel)) for channel in channels])


def strung(field, side, items, word, channels):
    """The tuple (marks, lost) of a shape of that word for each rank and colour."""
    both = parted(field, items, ("x",) + channels)
    marks = []
    for group in by_rank(both[0]):
        points = [point_of(field, item, channels) for item in along_x(field, group)]
        marks.append(((word, side, points, group[0][5]), [item[0] for item in group]))
    return (marks, both[1])


def lines(field, side, items):
    """The tuple (marks, lost) of a path for each rank and colour."""
    return strung(field, side, items, "path", ("y",))


def bands(field, side, items):
    """The tuple (marks, lost) of a band for each rank and colour."""
    return strung(field, side, items, "band", ("y", "other"))
