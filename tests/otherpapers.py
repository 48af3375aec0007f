"""Right papers that drawn would not draw: other frames, ranges, ticks and places of keys, by chance."""

from fieldwork import place, whole
from markscale.days import show_day
from markscale.figures import show_number
from markscale.scales import place_on
from plaindraw import Plain, first_coming
from things import fraction, told


class Others:
    """Papers of a telling and a table by the choices of a Chance."""

    def __init__(self, chance, telling, table):
        self.chance = chance
        self.plain = Plain(telling, table)
        self.ends = {}

    def number(self, low, high):
        return told(self.chance.random.randint(low * 6, high * 6), self.chance.pick((1, 2, 3, 6, 7)))

    def some_ends(self, side, facet):
        """What the axis of a side goes between: one choice for all facets, but for own."""
        key = (side, facet if self.plain.sheet[2] and side != "x" else None)
        if key not in self.ends:
            self.ends[key] = self.new_ends(self.plain.wish(side), side, facet)
        return self.ends[key]

    def new_ends(self, wish, side, facet):
        if wish[0] == "straight":
            low = self.number(-5, 5)
            return wish[1:] or (low, told(fraction(low) + self.chance.random.randint(1, 90)))
        if wish[0] == "turns":
            return (self.chance.random.randint(-6, 3), self.chance.random.randint(1, 9))
        if wish[0] == "days":
            return (738000 + self.chance.random.randint(-50, 500), 739000 + self.chance.random.randint(0, 900))
        if wish[0] == "order":
            return list(wish[1]) if len(wish) == 2 else first_coming(self.plain.axis_cells(side, facet))
        return wish[1]

    def scale(self, wish, ends, length):
        if wish[0] == "turns":
            return ("turns", wish[1], *ends, length)
        if wish[0] == "order":
            return ("order", ends, length)
        if wish[0] == "broken":
            places = [0] + sorted(self.chance.random.sample(range(1, length), 2 * len(ends) - 2)) + [length]
            return ("broken", [(*piece, *places[2 * at:2 * at + 2]) for at, piece in enumerate(ends)], length)
        return (wish[0], *ends, length)

    def ticks(self, scale):
        if scale[0] == "order":
            return [(whole(place(scale, word)), word) for word in scale[1]]
        if scale[0] == "broken":
            return [tick for lo, hi, begin, end in scale[1] for tick in ((begin, show_number(lo)), (end, show_number(hi)))]
        if scale[0] == "turns":
            ends = [told(fraction((scale[1], 1)) ** power) for power in (scale[2], scale[2] + scale[3])]
        else:
            ends = list(scale[1:3])
        show = show_day if scale[0] == "days" else show_number
        found = {0: show(ends[0]), scale[-1]: show(ends[1])}
        for turn in range(self.chance.random.randint(0, 6)):
            cell = self.chance.random.randint(738000, 740000) if scale[0] == "days" else self.number(-5, 90)
            at = place_on(scale, cell)
            if not isinstance(at, str):
                found.setdefault(whole(fraction(at)), show(cell))
        return sorted(found.items())

    def axis(self, side, facet, length):
        scale = self.scale(self.plain.wish(side), self.some_ends(side, facet), length)
        return scale, self.ticks(scale)

    def length(self, *sides):
        """A length of a frame at which words have unlike places and pieces room."""
        words = any(self.plain.wish(side)[0] in ("order", "broken") for side in sides)
        return self.chance.pick((1, 2, 7, 40, 4000) if not words else (20, 47, 300, 4000))

    def frame(self, facet):
        chance = self.chance.random
        width, height = self.length("x"), self.length(*self.plain.wished())
        axes = {side: self.axis(side, facet, width if side == "x" else height) for side in ["x"] + self.plain.wished()}
        far = self.chance.pick((9, 999999))
        return (chance.randint(-far, far), chance.randint(-far, far), width, height, axes)

    def paper(self):
        """A paper; its marks are the plain's."""
        frames = [self.frame(facet) for facet in range(len(self.plain.facets))]
        many = len(sum(self.plain.keys(), []))
        return self.plain.paper(frames, [(self.chance.random.randint(-10 ** 9, 10 ** 9), 5) for one in range(many)])
