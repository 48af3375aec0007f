"""The looker: whether anything is a right drawing of a table and a telling, whoever chose its frames and ticks."""

from markscale.axisreader import LONGEST, cell_read
from markscale.errors import NoSpace
from markscale.frames import cells_for, sides_wished, wish_for
from markscale.items import scene_of
from markscale.numbers import is_whole, rounded
from markscale.papers import keys_of, paper_of
from markscale.scales import place_on
from markscale.shapes import frames_in
from markscale.wishes import axis_word, words_wished

# What stands behind the first word of a shape that is no mark: texts (t) and whole numbers (w).
FORMS = {"frame": "twwww", "axis": "tt", "tick": "twt", "legend": "tt", "key": "twwtw"}
FARTHEST = 999999


def is_letter(letter, part):
    """Whether a part of a shape is what a letter of its form says."""
    return isinstance(part, str) if letter == "t" else is_whole(part)


def is_form(thing):
    """Whether a thing is a tuple with a word ahead and, where it is called as no mark is, of that form."""
    if not isinstance(thing, tuple) or len(thing) == 0 or not isinstance(thing[0], str):
        return False
    if thing[0] not in FORMS:
        return True
    form = FORMS[thing[0]]
    return len(thing) == len(form) + 1 and all([is_letter(letter, part) for letter, part in zip(form, thing[1:])])


def are_forms(thing):
    """Whether a thing is a tuple of three lists, the first one of shapes by their forms."""
    if not isinstance(thing, tuple) or len(thing) != 3 or not all([isinstance(part, list) for part in thing]):
        return False
    return all([is_form(shape) for shape in thing[0]])


def is_same(told, thing):
    """Whether a thing is just what is told, kind by kind: a truth is no whole number, a tuple no list."""
    if isinstance(told, (list, tuple)):
        if isinstance(told, list) != isinstance(thing, list) or isinstance(told, tuple) != isinstance(thing, tuple):
            return False
        return len(told) == len(thing) and all([is_same(one, other) for one, other in zip(told, thing)])
    if isinstance(told, str):
        return isinstance(thing, str) and told == thing
    return is_whole(thing) and told == thing


def is_frame_right(frame, title):
    """Whether a frame has its title, and lies within what a frame may be."""
    if frame.title != title or abs(frame.x) > FARTHEST or abs(frame.y) > FARTHEST:
        return False
    return 1 <= frame.width <= LONGEST and 1 <= frame.height <= LONGEST


def ends_of(scale):
    """What a scale goes between, whatever its length and places."""
    if scale[0] == "broken":
        return [(piece[0], piece[1]) for piece in scale[1]]
    return scale[:-1]


def is_wished(scale, wish, cells):
    """Whether told ends are a scale's, and the words of an order, told or by first coming among cells."""
    if wish[0] == "straight":
        return len(wish) == 1 or scale[1:3] == wish[1:]
    if wish[0] == "broken":
        return ends_of(scale) == list(wish[1])
    return wish[0] != "order" or scale[1] == words_wished(wish, cells)


def are_ticks_right(axis, word):
    """Whether ticks rise from the begin to the end of an axis, each at the rounded place of what it writes."""
    places = [tick[0] for tick in axis[1]]
    if any([other <= one for one, other in zip(places, places[1:])]):
        return False
    # But for orders a scale is read from the first label to the last: where these stand right, both ends have ticks.
    for place, text in axis[1]:
        exact = place_on(axis[0], cell_read(word, text))
        if isinstance(exact, str) or rounded(exact) != place:
            return False
    return True


def is_axis_right(scene, frame, facet, side):
    """Whether the axis of x or of a side, in the frame of that facet, is one that its wish lets be."""
    if side not in frame.axes or frame.axes[side][0] is None:
        return False
    axis = frame.axes[side]
    wish = wish_for(scene.telling, side)
    # By another word a scale of another form was read, on which not every mark can be laid.
    if axis[0][0] != wish[0]:
        return False
    if not is_wished(axis[0], wish, cells_for(scene, side, facet)):
        return False
    return are_ticks_right(axis, axis_word(wish))


def do_ends_agree(scene, frames):
    """Whether all axes of x, and of a side where facets have no own ones, go between the same ends."""
    sides = ["x"] if scene.telling[7][2] else ["x"] + sides_wished(scene.telling)
    for side in sides:
        ends = [ends_of(frame.axes[side][0]) for frame in frames]
        if any([other != ends[0] for other in ends]):
            return False
    return True


def are_frames_right(scene, frames):
    """Whether there is a frame for each facet, with axes as they may be."""
    if len(frames) != len(scene.facets):
        return False
    if not all([is_frame_right(frame, title) for frame, title in zip(frames, scene.facets)]):
        return False
    for side in ["x"] + sides_wished(scene.telling):
        if not all([is_axis_right(scene, frame, facet, side) for facet, frame in enumerate(frames)]):
            return False
    return do_ends_agree(scene, frames)


def is_right(table, telling, thing):
    """Whether a thing is a right drawing of a table and a telling."""
    if not are_forms(thing):
        return False
    try:
        scene = scene_of(telling, table)
    except NoSpace:
        return False
    frames = frames_in(thing[0])
    spots = [(shape[2], shape[3]) for shape in thing[0] if shape[0] == "key"]
    if not are_frames_right(scene, frames) or len(spots) != len(keys_of(scene)):
        return False
    return is_same(paper_of(scene, frames, spots), thing)
