"""Papers: the shapes of a scene in given frames, the rows behind each, and why a row is behind none."""

from markscale.frames import sides_wished, wish_for
from markscale.items import colour_of_rank, loss_of_row
from markscale.layers import layers_in
from markscale.legends import COLOURS_AT_ENDS, SIZES_AT_ENDS, keys_at_ends
from markscale.wishes import axis_word


class Entry:
    """A shape of a paper; facet and layer are numbers, None where it is no mark; rows are those of the plan."""

    def __init__(self, shape, facet, layer, rows):
        self.shape = shape
        self.facet = facet
        self.layer = layer
        self.rows = rows


def colour_keys(scene):
    """The keys of colour: tuples of a text and what is drawn for it."""
    if scene.colours is not None:
        return keys_at_ends(scene.colours, COLOURS_AT_ENDS)
    return [(word, colour_of_rank(rank)) for rank, word in enumerate(scene.ranks)]


def size_keys(scene):
    """The keys of size: tuples of a text and what is drawn for it."""
    return [] if scene.sizes is None else keys_at_ends(scene.sizes, SIZES_AT_ENDS)


def keys_of(scene):
    """All keys of the legends, in their order."""
    return colour_keys(scene) + size_keys(scene)


def tick_put(frame, side, along):
    """The place on the sheet of a tick that is so far along the axis of x or of a side."""
    return frame.x + along if side == "x" else frame.y + frame.height - along


def frame_shapes(telling, frame):
    """The shapes of a frame that are no marks."""
    shapes = [("frame", frame.title, frame.x, frame.y, frame.width, frame.height)]
    for side in ["x"] + sides_wished(telling):
        shapes.append(("axis", side, axis_word(wish_for(telling, side))))
        for along, text in frame.axes[side][1]:
            shapes.append(("tick", side, tick_put(frame, side, along), text))
    return shapes


def legend_shapes(channel, wish, keys, spots):
    """The shapes of the legend of a channel, its keys at these spots."""
    shapes = [("legend", channel, axis_word(wish))]
    for key, spot in zip(keys, spots):
        shapes.append(("key", channel, spot[0], spot[1], key[0], key[1]))
    return shapes


def all_legends(scene, spots):
    """The shapes of both legends, where they are."""
    telling = scene.telling
    shapes = []
    colours = colour_keys(scene)
    if telling[4] is not None:
        shapes.extend(legend_shapes("colour", telling[4][1], colours, spots[:len(colours)]))
    if telling[5] is not None:
        shapes.extend(legend_shapes("size", telling[5][1], size_keys(scene), spots[len(colours):]))
    return shapes


def ground_entries(shapes):
    """The entries of shapes that are no marks."""
    return [Entry(shape, None, None, []) for shape in shapes]


def entries_of(scene, frames, laid, spots):
    """The entries of all shapes, of what the layers of each frame have laid there."""
    entries = []
    for facet, frame in enumerate(frames):
        entries.extend(ground_entries(frame_shapes(scene.telling, frame)))
        for layer, both in enumerate(laid[facet]):
            entries.extend([Entry(mark[0], facet, layer, mark[1]) for mark in both[0]])
    return entries + ground_entries(all_legends(scene, spots))


def sources_of(scene, rows):
    """The rising numbers of the table's rows that planned rows are of."""
    sources = []
    for row in rows:
        sources.extend(scene.sources[row])
    return sorted(sources)


def lost_ahead(scene):
    """What is told of the table's rows that are no items, of one layer: tuples (number, channel, reason)."""
    lost = [(number, "sieve", step) for number, step in scene.sieved]
    for at, row in enumerate(scene.rows):
        loss = loss_of_row(scene, row)
        if loss is not None:
            lost.extend([(number, loss[0], loss[1]) for number in scene.sources[at]])
    return lost


def lost_of(scene, laid):
    """What is told of the table's rows that stand behind no shape, layer by layer."""
    lost = []
    for layer in range(len(scene.telling[3])):
        lost.extend([(loss[0], layer, loss[1], loss[2]) for loss in lost_ahead(scene)])
        for facet in laid:
            for loss in facet[layer][1]:
                lost.extend([(number, layer, loss[1], loss[2]) for number in scene.sources[loss[0]]])
    return sorted(lost)


def lay(scene, frames):
    """What the layers of each frame lay there: for each frame a list of tuples (marks, lost)."""
    return [layers_in(scene, frame, facet) for facet, frame in enumerate(frames)]


def paper_of(scene, frames, spots):
    """The drawing (shapes, behind, lost) of a scene in these frames, with its keys at these spots."""
    laid = lay(scene, frames)
    entries = entries_of(scene, frames, laid, spots)
    behind = [sources_of(scene, entry.rows) for entry in entries]
    return ([entry.shape for entry in entries], behind, lost_of(scene, laid))
