"""Sights: the marks of a drawing with the exact values and places behind them."""

from markscale.drawing import layout_of
from markscale.fields import base_on
from markscale.frames import field_of
from markscale.items import cell_of, colour_of, scene_of
from markscale.numbers import minus, number, plus
from markscale.papers import entries_of, lay
from markscale.scales import place_on
from markscale.tables import kind_at


class Sight:
    """A mark: value and place are None but of numbers' dots, bars, words and parts; length but of bars and parts.

    A part's place is that of its sum with all beneath it, which total is.
    """

    def __init__(self, at, entry, rank, word):
        self.at = at
        self.shape = entry.shape
        self.facet = entry.facet
        self.layer = entry.layer
        self.rank = rank
        self.word = word
        self.value = None
        self.place = None
        self.total = None
        self.length = None


class View:
    """A table, the scene that a telling makes of it, and the sights of all marks in the order of their shapes."""

    def __init__(self, table, scene, sights):
        self.table = table
        self.scene = scene
        self.sights = sights


def size_without_sign(one):
    """A number without its sign."""
    return (abs(one[0]), one[1])


def sum_beneath(sight, sights):
    """The sum of the parts beneath a part, whose heap's earlier parts come last among earlier sights."""
    if sights == []:
        return number(0)
    last = sights[-1]
    same = (last.facet, last.layer, last.word) == (sight.facet, sight.layer, sight.word)
    return last.total if same else number(0)


def measure_part(sight, scale, beneath):
    """Give a part's sight its sum, place and length."""
    begin = base_on(scale) if beneath[0] == 0 else place_on(scale, beneath)
    sight.total = plus(beneath, sight.value)
    sight.place = place_on(scale, sight.total)
    sight.length = size_without_sign(minus(sight.place, begin))


def measure(sight, scale, value, sights):
    """Give the sight of a mark of one number its value, place and length."""
    sight.value = value
    if sight.shape[0] == "part":
        measure_part(sight, scale, sum_beneath(sight, sights))
    else:
        sight.place = place_on(scale, value)
    if sight.shape[0] == "bar":
        sight.length = size_without_sign(minus(sight.place, base_on(scale)))


def sights_of(scene, frames, entries):
    """The sights of all marks among entries."""
    sights = []
    for at, entry in enumerate(entries):
        if entry.facet is not None:
            row = scene.rows[entry.rows[0]]
            sight = Sight(at, entry, colour_of(scene, row)[0], cell_of(scene, row, scene.telling[1][0]))
            column = scene.telling[3][entry.layer][2]
            if entry.shape[0] in ("dot", "bar", "word", "part") and kind_at(scene.columns, column) == "number":
                scale = field_of(frames[entry.facet], entry.shape[1])[1]
                measure(sight, scale, cell_of(scene, row, column), sights)
            sights.append(sight)
    return sights


def view_of(telling, table):
    """The view of a telling and a table, or a refusal as of drawing them."""
    scene = scene_of(telling, table)
    layout = layout_of(scene)
    entries = entries_of(scene, layout[0], lay(scene, layout[0]), layout[1])
    return View(table, scene, sights_of(scene, layout[0], entries))
