"""Tellings: what of a table is to be seen, and how; whether a thing is one, and goes with columns."""

from markscale.errors import NoTelling
from markscale.numbers import is_whole
from markscale.plans import MOST_STEPS
from markscale.tables import is_word, kind_at
from markscale.wishes import is_wish, kind_wished

PARTS = 8
MARKS = ("dots", "bars", "heaps", "lines", "bands", "boxes", "words")
WITH_OTHER = ("bands", "words")
SIDES = ("left", "right")
FORMS = ("straight", "turns", "broken", "days", "order")
MOST_LAYERS = 3
LEAST_SHEET = 60
MOST_SHEET = 2000


def is_channel(thing, forms):
    """Whether a thing is a tuple of a column and a wish of one of these forms."""
    if not isinstance(thing, tuple) or len(thing) != 2:
        return False
    return is_word(thing[0]) and is_wish(thing[1]) and thing[1][0] in forms


def are_steps(thing):
    """Whether a thing is a list of at most six things; what these are is looked at with columns."""
    return isinstance(thing, list) and len(thing) <= MOST_STEPS


def are_sides(thing):
    """Whether a thing is a tuple of two wishes, or None in the stead of one."""
    if not isinstance(thing, tuple) or len(thing) != len(SIDES):
        return False
    return all([wish is None or is_wish(wish) for wish in thing])


def forms_at_x(mark):
    """The forms of wishes for x that a mark wants."""
    if mark in ("bars", "heaps", "boxes"):
        return ("order",)
    if mark in ("lines", "bands"):
        return ("straight", "turns", "broken", "days")
    return FORMS


def forms_at_side(mark):
    """The forms of wishes that a mark wants at its side."""
    if mark == "boxes":
        return ("straight", "turns")
    if mark in ("bars", "heaps", "lines", "bands"):
        return ("straight", "turns", "broken")
    return FORMS


def wish_at(sides, side):
    """The wish at a side, or None."""
    return sides[SIDES.index(side)]


def is_layer(thing):
    """Whether a thing is a tuple (mark, side, column, other)."""
    if not isinstance(thing, tuple) or len(thing) != 4 or not is_word(thing[0]) or not is_word(thing[1]):
        return False
    if thing[0] not in MARKS or thing[1] not in SIDES or not is_word(thing[2]):
        return False
    return is_word(thing[3]) if thing[0] in WITH_OTHER else thing[3] is None


def layer_fits(layer, x, sides):
    """Whether the wishes for x and at its side are such as a layer's mark wants."""
    wish = wish_at(sides, layer[1])
    if wish is None or wish[0] not in forms_at_side(layer[0]):
        return False
    return x[1][0] in forms_at_x(layer[0])


def are_layers(thing, x, sides):
    """Whether a thing is a tuple of layers that go with the wishes, and each side's wish has one."""
    if not isinstance(thing, tuple) or not 1 <= len(thing) <= MOST_LAYERS:
        return False
    if not all([is_layer(layer) and layer_fits(layer, x, sides) for layer in thing]):
        return False
    used = [layer[1] for layer in thing]
    return all([side in used or wish_at(sides, side) is None for side in SIDES])


def is_colour(thing, layers):
    """Whether a thing is a colour that goes with the layers."""
    if "heaps" in [layer[0] for layer in layers]:
        return is_channel(thing, ("order",))
    return thing is None or is_channel(thing, ("straight", "order"))


def is_sheet(thing):
    """Whether a thing is a tuple of width, height and own."""
    if not isinstance(thing, tuple) or len(thing) != 3 or not isinstance(thing[2], bool):
        return False
    return all([is_whole(side) and LEAST_SHEET <= side <= MOST_SHEET for side in thing[:2]])


def look_at_telling(thing):
    """Refuse what is no telling."""
    if not isinstance(thing, tuple) or len(thing) != PARTS:
        raise NoTelling(None)
    if not are_steps(thing[0]):
        raise NoTelling("steps")
    if not is_channel(thing[1], FORMS):
        raise NoTelling("x")
    if not are_sides(thing[2]):
        raise NoTelling("sides")
    if not are_layers(thing[3], thing[1], thing[2]):
        raise NoTelling("layers")
    if not is_colour(thing[4], thing[3]):
        raise NoTelling("colour")
    if thing[5] is not None and not is_channel(thing[5], ("straight",)):
        raise NoTelling("size")
    if thing[6] is not None and not is_channel(thing[6], ("order",)):
        raise NoTelling("facet")
    if not is_sheet(thing[7]):
        raise NoTelling("sheet")


def goes_with(column, wish, columns):
    """Whether a column is there, and of the kind that goes with a wish."""
    return kind_at(columns, column) == kind_wished(wish)


def layer_goes(layer, sides, columns):
    """Whether the columns of a layer are there, and go with its side's wish and its mark."""
    wish = wish_at(sides, layer[1])
    if not goes_with(layer[2], wish, columns):
        return False
    if layer[0] == "bands":
        return goes_with(layer[3], wish, columns)
    return layer[0] != "words" or kind_at(columns, layer[3]) == "word"


def look_at_columns(telling, columns):
    """Refuse a telling whose columns lack, or go not with their wishes."""
    if not goes_with(telling[1][0], telling[1][1], columns):
        raise NoTelling("x")
    if not all([layer_goes(layer, telling[2], columns) for layer in telling[3]]):
        raise NoTelling("layers")
    for part, channel in (("colour", telling[4]), ("size", telling[5]), ("facet", telling[6])):
        if channel is not None and not goes_with(channel[0], channel[1], columns):
            raise NoTelling(part)
