"""Items: the planned rows of a telling and a table as the marks want them, and why a row is none."""

from markscale.legends import colour_scale, size_scale
from markscale.numbers import rounded
from markscale.plans import columns_behind, planned
from markscale.scales import place_on
from markscale.tables import column_at, look_at_table
from markscale.tellings import look_at_columns, look_at_telling
from markscale.views import facets_of, ranks_of, rows_in_facets

MANY_COLOURS = 12
LEAST_SIZE = 2
PLAIN_SIZE = 3


class Scene:
    """What a telling makes of a table ahead of any frame: rows, facets, the words and scales of colour and size."""

    def __init__(self, telling, plan):
        self.telling = telling
        self.columns = plan[0]
        self.rows = plan[1]
        self.sources = plan[2]
        self.sieved = plan[3]
        self.facets = facets_of(telling, plan[0], plan[1])
        self.ranks = ranks_of(telling, plan[0], plan[1])
        inside = rows_in_facets(telling, plan[0], plan[1])
        self.colours = colour_scale(telling, plan[0], inside)
        self.sizes = size_scale(telling, plan[0], inside)


def scene_of(telling, table):
    """The scene of a telling and a table, or a refusal."""
    look_at_table(table)
    look_at_telling(telling)
    look_at_columns(telling, columns_behind(telling[0], table[0]))
    return Scene(telling, planned(telling[0], table))


def cell_of(scene, row, name):
    """The cell of a planned row in the column of that name."""
    return row[column_at(scene.columns, name)]


def number_among(words, cell):
    """The number of a cell among words, or a text that tells why it has none."""
    if cell is None:
        return "nothing"
    return words.index(cell) if cell in words else "unknown"


def facet_at(scene, row):
    """The number of the facet in which a planned row stands, or a text that tells why in none."""
    facet = scene.telling[6]
    return 0 if facet is None else number_among(scene.facets, cell_of(scene, row, facet[0]))


def colour_of_rank(rank):
    """The colour of a rank: there are twelve of them, which come round again."""
    return rank % MANY_COLOURS


def colour_of(scene, row):
    """The tuple (rank, colour) of a planned row, or a text that tells why it has none."""
    colour = scene.telling[4]
    if colour is None:
        return (0, 0)
    cell = cell_of(scene, row, colour[0])
    if scene.colours is None:
        rank = number_among(scene.ranks, cell)
        return rank if isinstance(rank, str) else (rank, colour_of_rank(rank))
    place = place_on(scene.colours, cell)
    return place if isinstance(place, str) else (0, rounded(place))


def size_of(scene, row):
    """The size of a planned row, or a text that tells why it has none."""
    if scene.sizes is None:
        return PLAIN_SIZE
    place = place_on(scene.sizes, cell_of(scene, row, scene.telling[5][0]))
    return place if isinstance(place, str) else LEAST_SIZE + rounded(place)


def loss_of_row(scene, row):
    """The tuple (channel, reason) of the first of facet, colour and size at which a row has no place, or None."""
    found = (("facet", facet_at(scene, row)), ("colour", colour_of(scene, row)), ("size", size_of(scene, row)))
    for channel, place in found:
        if isinstance(place, str):
            return (channel, place)
    return None


def item_of(scene, number, layer):
    """The item of a planned row for a layer."""
    row = scene.rows[number]
    look = colour_of(scene, row)
    other = None if layer[3] is None else cell_of(scene, row, layer[3])
    cells = (cell_of(scene, row, scene.telling[1][0]), cell_of(scene, row, layer[2]), other)
    return (number,) + cells + look + (size_of(scene, row),)


def items_of(scene, facet, layer):
    """The items of a layer in the facet of that number."""
    inside = [at for at, row in enumerate(scene.rows) if facet_at(scene, row) == facet]
    return [item_of(scene, at, layer) for at in inside if loss_of_row(scene, scene.rows[at]) is None]
