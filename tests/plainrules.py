"""The plain reading of points 33 and 34: all sayings that are so, of a telling and a table."""

from fractions import Fraction

from markscale.makes import made_of
from markscale.plans import planned
from markscale.scales import place_on
from plaindraw import Plain
from things import fraction

RULES = ("nought", "twice", "heaps", "alike", "words")


def exact(scale, value):
    return fraction(place_on(scale, value))


def base(scale):
    at = place_on(scale, (0, 1))
    return Fraction(0) if isinstance(at, str) else fraction(at)


class PlainRules:
    def __init__(self, telling, table):
        self.telling, self.table = telling, table
        self.plain = Plain(telling, table)
        self.plain.paper(self.plain.frames(), self.plain.spots())
        self.marks = self.plain.marks
        sums = {}
        for mark in self.marks:
            column = self.plain.layers[mark.layer][2]
            row = self.plain.rows[mark.rows[0]]
            mark.word = self.plain.cell(row, self.plain.x[0])
            mark.rank = self.plain.look(row)[1]
            mark.value = self.plain.cell(row, column)
            mark.numbers = dict(self.plain.columns)[column] == "number"
            if mark.shape[0] == "part":
                heap = (mark.facet, mark.layer, mark.word)
                low = sums.get(heap, Fraction(0))
                sums[heap] = low + fraction(mark.value)
                begin = base(mark.scales[1]) if low == 0 else exact(mark.scales[1], (low.numerator, low.denominator))
                mark.length = exact(mark.scales[1], (sums[heap].numerator, sums[heap].denominator)) - begin
            if mark.shape[0] == "bar":
                mark.length = abs(exact(mark.scales[1], mark.value) - base(mark.scales[1]))

    def nought(self, one, other):
        if one.shape[0] != other.shape[0] or one.shape[0] not in ("bar", "part"):
            return False
        if one.facet != other.facet or one.shape[1] != other.shape[1]:
            return False
        values = abs(fraction(one.value)), abs(fraction(other.value))
        return 0 not in values and one.length * values[1] != other.length * values[0]

    def misread(self, one, other):
        if not all(mark.shape[0] in ("dot", "bar", "word") and mark.numbers for mark in (one, other)):
            return False
        places = [exact(mark.scales[1], mark.value) for mark in (one, other)]
        return (one.value == other.value) != (places[0] == places[1])

    def twice(self, one, other):
        colour = self.plain.colour
        if colour and colour[1][0] == "order" and one.rank != other.rank and one.shape[-1] == other.shape[-1]:
            return True
        return one.facet == other.facet and one.shape[1] != other.shape[1] and self.misread(one, other)

    def alike(self, one, other):
        return self.plain.sheet[2] and one.facet != other.facet and one.shape[1] == other.shape[1] and self.misread(one, other)

    def words(self, one, other):
        if {one.shape[0], other.shape[0]} != {"word"} or one.facet != other.facet:
            return False
        boxes = []
        for mark in (one, other):
            wide = 3 * len(mark.shape[4])
            boxes.append((mark.shape[2] - wide, mark.shape[2] + wide, mark.shape[3] - 5, mark.shape[3] + 5))
        return all(max(boxes[0][at], boxes[1][at]) < min(boxes[0][at + 1], boxes[1][at + 1]) for at in (0, 2))

    def heaps(self, one, other):
        steps = self.telling[0]
        layer = self.plain.layers[one.layer]
        if layer[0] != "heaps" or not steps or steps[-1][0] != "kinds":
            return False
        channels = [channel[0] for channel in (self.plain.x, self.plain.colour, self.plain.facet) if channel]
        makes = [make for make in steps[-1][2] if make[0] == layer[2] and make[1] in ("mean", "middle", "least", "greatest")]
        if set(channels) != set(steps[-1][1]) or not makes:
            return False
        heap = [mark for mark in self.marks if (mark.facet, mark.layer, mark.word) == (one.facet, one.layer, one.word) and mark.shape[0] == "part"]
        if heap[:2] != [one, other]:
            return False
        columns, rows, _, _ = planned(steps[:-1], self.table)
        names = [column[0] for column in columns]
        cells = [row[names.index(makes[0][2])] for row in rows if row[names.index(self.plain.x[0])] == one.word
                 and (not self.plain.facet or row[names.index(self.plain.facet[0])] == self.plain.facets[one.facet])]
        return fraction(made_of(makes[0][1], cells)) != sum(fraction(mark.value) for mark in heap)

    def all(self):
        """All sayings that are so."""
        calls = {"nought": self.nought, "twice": self.twice, "heaps": self.heaps, "alike": self.alike, "words": self.words}
        return [(rule, one.at, other.at) for rule in RULES for at, one in enumerate(self.marks) for other in self.marks[at + 1:]
                if calls[rule](one, other)]

    def first(self):
        """The first one of each rule."""
        found = {}
        for saying in self.all():
            found.setdefault(saying[0], saying)
        return list(found.values())
