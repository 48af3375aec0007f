"""The reader: what shapes tell back, of nothing but themselves."""

from markscale.axisreader import cell_read, stretch_read
from markscale.fields import bar_ends, base_on
from markscale.frames import field_of
from markscale.legends import COLOUR_LENGTH, SIZE_LENGTH, SIZES_AT_ENDS
from markscale.numbers import minus, number, rounded, under
from markscale.shapes import frame_numbers, frames_in, is_mark


def up_of(field, y):
    """How far a place of the sheet lies above a field's bottom."""
    return field[3] + field[5] - y


def x_read(field, x):
    """What an x of the sheet tells back."""
    return stretch_read(field[0], x - field[2])


def y_read(field, y):
    """What a y of the sheet tells back."""
    return stretch_read(field[1], up_of(field, y))


def bar_read(field, shape):
    """What the two ends of a bar, a part or a five tell back: the words whose bar would have them."""
    return ("among", [word for word in field[0][1] if bar_ends(field, word) == (shape[2], shape[3])])


def greater_of(one, other):
    """The greater one of two numbers."""
    return other if under(one, other) else one


def height_read(field, begin, end):
    """What a part that goes from a y to another one tells back: the stretch of its own number."""
    beneath = y_read(field, begin)
    above = y_read(field, end)
    nought = number(0)
    low = beneath[1]
    high = beneath[2]
    # Nothing, or no more than is rounded away, stands beneath a part at the base, even where 0 has no place.
    if up_of(field, begin) == rounded(base_on(field[1])):
        low = nought
        high = greater_of(high, nought)
    return ("between", greater_of(minus(above[1], high), nought), minus(above[2], low))


def points_read(field, points):
    """What the points of a path or a band tell back."""
    readings = []
    for point in points:
        readings.extend([("x", x_read(field, point[0])), ("y", y_read(field, point[1]))])
        readings.extend([("other", y_read(field, y)) for y in point[2:]])
    return readings


def places_read(field, shape):
    """What the places of a mark tell back."""
    if shape[0] in ("path", "band"):
        return points_read(field, shape[2])
    if shape[0] == "bar":
        return [("x", bar_read(field, shape)), ("y", y_read(field, shape[5]))]
    if shape[0] == "part":
        return [("x", bar_read(field, shape)), ("y", height_read(field, shape[4], shape[5]))]
    if shape[0] == "five":
        return [("x", bar_read(field, shape))] + [("y", y_read(field, y)) for y in shape[4]]
    readings = [("x", x_read(field, shape[2])), ("y", y_read(field, shape[3]))]
    if shape[0] == "word":
        readings.append(("other", ("among", [shape[4]])))
    return readings


def legend_in(shapes, channel):
    """The tuple (word, keys) of the legend of a channel, or None; keys are tuples of a text and a number."""
    keys = [(shape[4], shape[5]) for shape in shapes if shape[0] == "key" and shape[1] == channel]
    for shape in shapes:
        if shape[0] == "legend" and shape[1] == channel:
            return (shape[2], keys)
    return None


def key_read(legend, shown, length):
    """What a number that is so far along the keys tells back."""
    if legend[0] == "order":
        return ("among", [key[0] for key in legend[1] if key[1] == shown])
    ends = [cell_read("straight", key[0]) for key in legend[1]]
    return stretch_read(("straight", ends[0], ends[-1], length), shown)


def looks_read(shape, colour, size):
    """What the colour of a mark, and the size of a dot, tell back, where there are legends of them."""
    readings = []
    if colour is not None:
        readings.append(("colour", key_read(colour, shape[-1], COLOUR_LENGTH)))
    if size is not None and shape[0] == "dot":
        readings.append(("size", key_read(size, shape[4] - SIZES_AT_ENDS[0], SIZE_LENGTH)))
    return readings


def read_back(shapes):
    """The list of tuples (number of the shape, readings) of each mark."""
    frames = frames_in(shapes)
    numbers = frame_numbers(shapes)
    colour = legend_in(shapes, "colour")
    size = legend_in(shapes, "size")
    told = []
    for at, shape in enumerate(shapes):
        if is_mark(shape):
            field = field_of(frames[numbers[at]], shape[1])
            told.append((at, places_read(field, shape) + looks_read(shape, colour, size)))
    return told


def likeness_of(shape):
    """A shape as a tuple without lists, by which alike ones are found."""
    return tuple([tuple(part) if isinstance(part, list) else part for part in shape])


def not_apart(shapes):
    """The rising lists of the numbers of marks that are the same shape in one frame, by their first ones."""
    numbers = frame_numbers(shapes)
    alike = {}
    for at, shape in enumerate(shapes):
        if is_mark(shape):
            alike.setdefault((numbers[at], likeness_of(shape)), []).append(at)
    return [alike[look] for look in alike if len(alike[look]) > 1]
