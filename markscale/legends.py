"""Legends: the scales of colour and size, the keys that show them, and the room that these take."""

from markscale.axes import widest_of
from markscale.errors import NoSpace
from markscale.figures import show_number
from markscale.scales import straight_ends
from markscale.views import cells_there

COLOUR_LENGTH = 255
SIZE_LENGTH = 18
COLOURS_AT_ENDS = (0, 255)
SIZES_AT_ENDS = (2, 20)
ROOM_ABOUT_TEXT = 24
KEY_HEIGHT = 12
ROOM_ABOUT_KEYS = 16
KEYS_BEGIN = 8


def scale_of(channel, columns, rows, length):
    """The straight scale of a channel, between told ends or those of the cells that are there."""
    wish = channel[1]
    ends = wish[1:] if len(wish) == 3 else straight_ends(cells_there(columns, rows, channel[0]))
    return ("straight", ends[0], ends[1], length)


def colour_scale(telling, columns, rows):
    """The scale of colour, of rows that stand in facets, or None where colour has none."""
    colour = telling[4]
    if colour is None or colour[1][0] != "straight":
        return None
    return scale_of(colour, columns, rows, COLOUR_LENGTH)


def size_scale(telling, columns, rows):
    """The scale of size, of rows that stand in facets, or None where there is no size."""
    if telling[5] is None:
        return None
    return scale_of(telling[5], columns, rows, SIZE_LENGTH)


def keys_at_ends(scale, numbers):
    """The keys of the two ends of a scale: tuples of a text and what is drawn for it."""
    return [(show_number(scale[1]), numbers[0]), (show_number(scale[2]), numbers[1])]


def room_of(keys, height):
    """The width of the room that keys take, which must be high enough for them."""
    if keys == []:
        return 0
    if KEY_HEIGHT * len(keys) + ROOM_ABOUT_KEYS > height:
        raise NoSpace("the keys have no room")
    return ROOM_ABOUT_TEXT + widest_of([key[0] for key in keys])


def spots_of(keys, begin):
    """The places of keys one below the other, in a room that begins at that x."""
    return [(begin + KEYS_BEGIN, KEYS_BEGIN + KEY_HEIGHT * at) for at in range(len(keys))]
