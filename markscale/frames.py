"""Frames: where the facets of a sheet lie, and the axes about them."""

from markscale.axes import axis_for, widest_of
from markscale.errors import NoSpace
from markscale.items import cell_of, facet_at
from markscale.makes import sum_of
from markscale.tellings import SIDES, wish_at
from markscale.views import cells_there

TOP_WITH_TITLE = 14
TOP_WITHOUT = 4
BELOW = 16
LEAST_FRAME = 24
ROOM_ABOUT_LABEL = 8
LEAST_ROOM = 32


class Frame:
    """A facet's frame on the sheet; axes are tuples (scale, ticks) by x and the sides that have one."""

    def __init__(self, title, x, y, width, height, axes):
        self.title = title
        self.x = x
        self.y = y
        self.width = width
        self.height = height
        self.axes = axes


def field_of(frame, side):
    """The field of a frame and a side."""
    return (frame.axes["x"][0], frame.axes[side][0], frame.x, frame.y, frame.width, frame.height)


def sides_wished(telling):
    """The sides at which there is a wish."""
    return [side for side in SIDES if wish_at(telling[2], side) is not None]


def wish_for(telling, side):
    """The wish of x, or at a side."""
    return telling[1][1] if side == "x" else wish_at(telling[2], side)


def in_facets(scene):
    """The tuples (facet's number, row) of the planned rows that stand in facets."""
    pairs = [(facet_at(scene, row), row) for row in scene.rows]
    return [pair for pair in pairs if not isinstance(pair[0], str)]


def heap_sums(scene, layer, pairs):
    """The sums of a heaps' layer's cells that are not below 0, of each facet and word of x."""
    heaped = {}
    for pair in pairs:
        word = cell_of(scene, pair[1], scene.telling[1][0])
        cell = cell_of(scene, pair[1], layer[2])
        if word is not None and cell is not None and cell[0] >= 0:
            heaped.setdefault((pair[0], word), []).append(cell)
    return [sum_of(heaped[heap]) for heap in heaped]


def layer_cells(scene, layer, pairs):
    """The cells of a layer for which its side's axis is made."""
    if layer[0] == "heaps":
        return heap_sums(scene, layer, pairs)
    rows = [pair[1] for pair in pairs]
    cells = cells_there(scene.columns, rows, layer[2])
    return cells + cells_there(scene.columns, rows, layer[3]) if layer[0] == "bands" else cells


def cells_for(scene, side, facet):
    """The cells for which the axis of x or of a side is made, in the facet of that number."""
    pairs = in_facets(scene)
    if side == "x":
        return cells_there(scene.columns, [pair[1] for pair in pairs], scene.telling[1][0])
    if scene.telling[7][2]:
        pairs = [pair for pair in pairs if pair[0] == facet]
    cells = []
    for layer in scene.telling[3]:
        if layer[1] == side:
            cells.extend(layer_cells(scene, layer, pairs))
    return cells


def wants_nought(telling, side):
    """Whether bars or heaps stand at a side."""
    return any([layer[1] == side and layer[0] in ("bars", "heaps") for layer in telling[3]])


def side_axes(scene, side, height):
    """The axes at a side, one for each facet."""
    wish = wish_at(scene.telling[2], side)
    nought = wants_nought(scene.telling, side)
    many = len(scene.facets)
    if scene.telling[7][2]:
        return [axis_for(wish, cells_for(scene, side, facet), height, "upright", nought) for facet in range(many)]
    return [axis_for(wish, cells_for(scene, side, 0), height, "upright", nought)] * many


def room_at(axes):
    """The room that the labels of a side's axes take in all facets."""
    widest = max([widest_of([tick[1] for tick in axis[1]]) for axis in axes], default=0)
    return max(LEAST_ROOM, ROOM_ABOUT_LABEL + widest)


def many_beside(many):
    """How many of so many facets stand beside one another."""
    beside = 1
    while beside * beside < many:
        beside += 1
    return beside


def top_of(telling):
    """How far a frame begins below its place."""
    return TOP_WITHOUT if telling[6] is None else TOP_WITH_TITLE


def frame_height(telling, high):
    """The height of a frame in a place of that height."""
    height = high - top_of(telling) - BELOW
    if height < LEAST_FRAME:
        raise NoSpace("a frame is too low")
    return height


def frame_width(wide, left, right):
    """The width of a frame in a place of that width, between the rooms at its sides."""
    width = wide - left - right
    if width < LEAST_FRAME:
        raise NoSpace("a frame is too narrow")
    return width


def frames_of(scene, room):
    """The frames of all facets, beside a legend of that room."""
    telling = scene.telling
    beside = many_beside(len(scene.facets))
    wide = (telling[7][0] - room) // beside
    high = telling[7][1] // -(-len(scene.facets) // beside)
    height = frame_height(telling, high)
    axes = {}
    for side in sides_wished(telling):
        axes[side] = side_axes(scene, side, height)
    left = room_at(axes.get("left", []))
    width = frame_width(wide, left, room_at(axes.get("right", [])))
    across = axis_for(telling[1][1], cells_for(scene, "x", 0), width, "level")
    frames = []
    for facet, title in enumerate(scene.facets):
        about = {"x": across}
        for side in axes:
            about[side] = axes[side][facet]
        x = wide * (facet % beside) + left
        y = high * (facet // beside) + top_of(telling)
        frames.append(Frame(title, x, y, width, height, about))
    return frames
