"""Legends: the scales of colour and size."""

from markscale.scales import straight_ends
from markscale.views import cells_there

COLOUR_LENGTH = 255
SIZE_LENGTH = 18


def scale_of(channel, columns, rows, length):
    """The straight scale of a channel, between told ends or those of the cells that are there."""
    wish = channel[1]
    ends = wish[1:] if len(wish) == 3 else straight_ends(cells_there(columns, rows, channel[0]))
    return ("straight", ends[0], ends[1], length)


def colour_scale(telling, columns, rows):
    """The scale of colour, of rows that stand in facets, or None where colour has none."""
    colour = telling[4]
    if colour is None or colour[1][0] != "straight":
        return None
    return scale_of(colour, columns, rows, COLOUR_LENGTH)


def size_scale(telling, columns, rows):
    """The scale of size, of rows that stand in facets, or None where there is no size."""
    if telling[5] is None:
        return None
    return scale_of(telling[5], columns, rows, SIZE_LENGTH)
