"""The plain reading of points 23 to 27, of whatever frames: a second drawing, made of axes and marks alone."""

from math import floor

from fieldwork import place, whole
from markscale.axes import axis_for
from markscale.bars import bars, heaps
from markscale.boxes import boxes
from markscale.errors import NoSpace
from markscale.figures import show_number
from markscale.paths import bands, lines
from markscale.plans import planned
from markscale.scales import place_on
from markscale.spots import dots, words
from things import fraction, told

CALLS = {"dots": dots, "words": words, "bars": bars, "heaps": heaps, "lines": lines, "bands": bands, "boxes": boxes}
SIDES = ("left", "right")


def first_coming(cells):
    return list(dict.fromkeys(cell for cell in cells if cell is not None))


def ends(cells, wish):
    if len(wish) == 3:
        return wish[1:]
    numbers = sorted(fraction(cell) for cell in cells if cell is not None) or [0, 1]
    low, high = numbers[0], numbers[-1]
    return told(low), told(high if high > low else low + 1)


class Mark:
    """A mark of a plain drawing: its shape and number, its facet and layer, the planned rows behind it, its scales."""

    def __init__(self, at, shape, facet, layer, rows, scales):
        self.at, self.shape, self.facet, self.layer, self.rows, self.scales = at, shape, facet, layer, rows, scales


class Plain:
    """What is told of a telling and a table ahead of frames; marks are those of the paper that was made last."""

    def __init__(self, telling, table):
        self.steps, self.x, self.sides, self.layers, self.colour, self.size, self.facet, self.sheet = telling
        self.columns, self.rows, self.sources, self.sieved = planned(self.steps, table)
        self.names = [column[0] for column in self.columns]
        self.facets = self.words(self.facet, self.rows, 12) if self.facet else [""]
        self.inside = [row for row in self.rows if not self.facet or self.cell(row, self.facet[0]) in self.facets]
        self.ranks, self.colours, self.sizes = [], None, None
        if self.colour and self.colour[1][0] == "order":
            self.ranks = self.words(self.colour, self.inside, 60)
        elif self.colour:
            self.colours = ("straight", *ends([self.cell(row, self.colour[0]) for row in self.inside], self.colour[1]), 255)
        if self.size:
            self.sizes = ("straight", *ends([self.cell(row, self.size[0]) for row in self.inside], self.size[1]), 18)

    def cell(self, row, name):
        return row[self.names.index(name)]

    def words(self, channel, rows, most):
        found = list(channel[1][1]) if len(channel[1]) == 2 else first_coming(self.cell(row, channel[0]) for row in rows)
        if not 1 <= len(found) <= most:
            raise NoSpace("words")
        return found

    def keys(self):
        colours = [(word, at % 12) for at, word in enumerate(self.ranks)]
        if self.colours:
            colours = [(show_number(self.colours[1]), 0), (show_number(self.colours[2]), 255)]
        sizes = [(show_number(self.sizes[1]), 2), (show_number(self.sizes[2]), 20)] if self.sizes else []
        return colours, sizes

    def room(self):
        keys = sum(self.keys(), [])
        if keys and 12 * len(keys) + 16 > self.sheet[1]:
            raise NoSpace("keys")
        return 24 + 6 * max(len(key[0]) for key in keys) if keys else 0

    def spots(self):
        return [(self.sheet[0] - self.room() + 8, 8 + 12 * at) for at in range(len(sum(self.keys(), [])))]

    def facet_of(self, row):
        return self.facets.index(self.cell(row, self.facet[0])) if self.facet else 0

    def cells(self, side, rows):
        found = []
        for mark, at, column, other in self.layers:
            if at != side:
                continue
            if mark == "heaps":
                sums = {}
                for row in rows:
                    heap = (self.facet_of(row), self.cell(row, self.x[0]))
                    cell = self.cell(row, column)
                    if heap[1] is not None and cell is not None and fraction(cell) >= 0:
                        sums[heap] = sums.get(heap, 0) + fraction(cell)
                found += [told(one) for one in sums.values()]
            else:
                found += [self.cell(row, column) for row in rows]
                found += [self.cell(row, other) for row in rows if mark == "bands"]
        return [cell for cell in found if cell is not None]

    def axis_cells(self, side, facet):
        if side == "x":
            return [self.cell(row, self.x[0]) for row in self.inside if self.cell(row, self.x[0]) is not None]
        return self.cells(side, [row for row in self.inside if not self.sheet[2] or self.facet_of(row) == facet])

    def wish(self, side):
        return self.x[1] if side == "x" else self.sides[SIDES.index(side)]

    def wished(self):
        return [side for side in SIDES if self.wish(side)]

    def frames(self):
        many = len(self.facets)
        beside = min(c for c in range(1, 13) if c * c >= many)
        down = min(r for r in range(1, 13) if r * beside >= many)
        wide, high = (self.sheet[0] - self.room()) // beside, self.sheet[1] // down
        top = 14 if self.facet else 4
        height = high - top - 16
        if height < 24:
            raise NoSpace("height")
        axes = [{} for facet in self.facets]
        rooms = {"left": 32, "right": 32}
        for side in self.wished():
            nought = any(layer[0] in ("bars", "heaps") for layer in self.layers if layer[1] == side)
            for facet in range(many):
                axes[facet][side] = axis_for(self.wish(side), self.axis_cells(side, facet), height, "upright", nought=nought)
                rooms[side] = max([rooms[side]] + [8 + 6 * len(text) for _, text in axes[facet][side][1]])
        width = wide - rooms["left"] - rooms["right"]
        if width < 24:
            raise NoSpace("width")
        for facet in range(many):
            axes[facet]["x"] = axis_for(self.x[1], self.axis_cells("x", facet), width, "level")
        return [((at % beside) * wide + rooms["left"], (at // beside) * high + top, width, height, axes[at]) for at in range(many)]

    def look(self, row):
        """The facet, rank, colour and size of a row, or a channel and a reason."""
        found = []
        if self.facet:
            cell = self.cell(row, self.facet[0])
            if cell not in self.facets:
                return "facet", "nothing" if cell is None else "unknown"
        found.append(self.facet_of(row))
        if self.ranks:
            cell = self.cell(row, self.colour[0])
            if cell not in self.ranks:
                return "colour", "nothing" if cell is None else "unknown"
            found += [self.ranks.index(cell), self.ranks.index(cell) % 12]
        elif self.colours:
            at = place_on(self.colours, self.cell(row, self.colour[0]))
            if isinstance(at, str):
                return "colour", at
            found += [0, whole(place(self.colours, self.cell(row, self.colour[0])))]
        else:
            found += [0, 0]
        if self.sizes:
            at = place_on(self.sizes, self.cell(row, self.size[0]))
            if isinstance(at, str):
                return "size", at
            return found + [2 + floor(fraction(at) + told_half())]
        return found + [3]

    def paper(self, frames, spots):
        """The drawing in these frames: tuples (x, y, width, height, axes)."""
        shapes, behind = [], []
        self.marks = []
        lost = [(row, layer, "sieve", step) for row, step in self.sieved for layer in range(len(self.layers))]
        looks = [self.look(row) for row in self.rows]
        for at, look in enumerate(looks):
            if isinstance(look, tuple):
                lost += [(row, layer) + look for row in self.sources[at] for layer in range(len(self.layers))]
        for facet, (x, y, width, height, axes) in enumerate(frames):
            ground = [("frame", self.facets[facet], x, y, width, height)]
            for side in ["x"] + self.wished():
                wish = self.wish(side)
                ground.append(("axis", side, f"turns {wish[1]}" if wish[0] == "turns" else wish[0]))
                ground += [("tick", side, x + at if side == "x" else y + height - at, text) for at, text in axes[side][1]]
            shapes += ground
            behind += [[] for _ in ground]
            for number, (mark, side, column, other) in enumerate(self.layers):
                items = [(at, self.cell(row, self.x[0]), self.cell(row, column), self.cell(row, other) if other else None, *look[1:])
                         for at, (row, look) in enumerate(zip(self.rows, looks)) if isinstance(look, list) and look[0] == facet]
                marks, losses = CALLS[mark]((axes["x"][0], axes[side][0], x, y, width, height), side, items)
                for shape, numbers in marks:
                    self.marks.append(Mark(len(shapes), shape, facet, number, numbers, (axes["x"][0], axes[side][0])))
                    shapes.append(shape)
                    behind.append(sorted(row for one in numbers for row in self.sources[one]))
                lost += [(row, number, channel, reason) for one, channel, reason in losses for row in self.sources[one]]
        at = 0
        for channel, wish, keys in zip(("colour", "size"), (self.colour, self.size), self.keys()):
            if wish:
                shapes.append(("legend", channel, wish[1][0]))
                behind.append([])
                for text, number in keys:
                    shapes.append(("key", channel, *spots[at], text, number))
                    behind.append([])
                    at += 1
        return shapes, behind, sorted(lost, key=lambda loss: loss[:2])


def told_half():
    return fraction((1, 2))


def plain_drawn(telling, table):
    plain = Plain(telling, table)
    return plain.paper(plain.frames(), plain.spots())
