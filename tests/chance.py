"""Tables and tellings by chance, always the same ones for the same seed."""

import random

from markscale.days import day_of
from things import told

DAY = day_of(2024, 1, 30)
COLUMNS = [("n", "number"), ("m", "number"), ("w", "word"), ("v", "word"), ("d", "day"), ("u", "word")]
NUMBERS = ("straight", "turns", "broken")


class Chance:
    def __init__(self, seed):
        self.random = random.Random(seed)

    def pick(self, things):
        return self.random.choice(list(things))

    def cell(self, kind, words="abc"):
        if self.random.random() < 0.12:
            return None
        if kind == "word":
            return self.pick(words)
        if kind == "day":
            return DAY + self.random.randint(0, self.pick((3, 40, 900)))
        return told(self.random.randint(-3, 12) * self.pick((1, 1, 1, 7)), self.pick((1, 1, 2, 3)))

    def row(self):
        return tuple(self.cell(kind, "abcdefghijklmnop" if name == "u" else "abc") for name, kind in COLUMNS)

    def table(self, most=9):
        return (list(COLUMNS), [self.row() for _ in range(self.random.randint(0, most))])

    def numbers_wish(self, forms=NUMBERS):
        form = self.pick(forms)
        if form == "turns":
            return ("turns", self.pick((2, 10)))
        if form == "broken":
            return ("broken", self.pick(((((-1, 1), (4, 1)), ((6, 1), (20, 1))), (((1, 1), (2, 1)), ((3, 1), (5, 1)), ((11, 2), (60, 1))))))
        return self.pick((("straight",), ("straight",), ("straight", (-1, 2), (9, 1)), ("straight", (1, 1), (70, 1))))

    def order_wish(self, words="abc"):
        return self.pick((("order",), ("order",), ("order", tuple(words)), ("order", tuple(reversed(words[1:])))))

    def column(self, wish):
        kind = {"days": ("d",), "order": ("w", "v")}.get(wish[0], ("n", "m"))
        return self.pick(kind)

    def any_wish(self, forms):
        form = self.pick(forms)
        if form == "days":
            return ("days",)
        return self.order_wish() if form == "order" else self.numbers_wish((form,))

    def step(self):
        test = self.pick((("there", "n"), ("not", ("same", "v", "a")), ("one", ("under", "n", (5, 1)), ("there", "d"))))
        return self.pick((("sieve", test), ("bins", "n", self.pick(("p", "q", "r")), (0, 1), (5, 2))))

    def telling(self):
        over_words = self.random.random() < 0.5
        marks = ("dots", "words", "bars", "heaps", "boxes") if over_words else ("dots", "words", "lines", "bands")
        layers = [self.pick(marks) for _ in range(self.random.randint(1, 3))]
        x = self.order_wish() if over_words else self.any_wish(NUMBERS + ("days",))
        sides = {}
        told_layers = []
        for mark in layers:
            side = self.pick(("left", "left", "right"))
            forms = ("straight", "turns") if mark == "boxes" else NUMBERS
            if mark in ("dots", "words"):
                forms += ("days", "order")
            if side not in sides or sides[side][0] not in forms:
                if side in sides:
                    continue
                sides[side] = self.any_wish(forms)
            column = self.column(sides[side])
            other = self.pick(("w", "v")) if mark == "words" else self.pick(("n", "m")) if mark == "bands" else None
            told_layers.append((mark, side, column, other))
        colour = self.pick((None, ("n", ("straight",)), ("m", ("straight", (0, 1), (20, 1))), ("v", self.order_wish()), ("u", ("order",))))
        if "heaps" in [layer[0] for layer in told_layers]:
            colour = self.pick((("v", self.order_wish()), ("u", ("order",))))
        size = self.pick((None, None, ("m", ("straight",)), ("n", ("straight", (0, 1), (8, 1)))))
        facet = self.pick((None, None, ("v", self.order_wish()), ("w", self.order_wish()), ("u", ("order",))))
        sheet = (self.random.randint(150, 1400), self.random.randint(120, 900), self.random.random() < 0.5)
        steps = [self.step() for _ in range(self.pick((0, 0, 1, 2)))]
        return (steps, (self.column(x), x), (sides.get("left"), sides.get("right")), tuple(told_layers), colour, size, facet, sheet)

    def kinds_telling(self):
        """A telling of a plan with kinds behind, whose layers show what is made."""
        whole = list(self.telling())
        facet = self.pick((None, ("w", ("order",))))
        word = self.pick(("sum", "mean", "middle", "least", "greatest", "count"))
        x = self.pick(("v", "w"))
        mark = self.pick(("heaps", "bars", "dots", "boxes"))
        colour = ("u", ("order",)) if mark == "heaps" else self.pick((None, ("u", ("order",))))
        names = [name for name in dict.fromkeys([x, colour and colour[0], facet and facet[0]]) if name]
        self.random.shuffle(names)
        kinds = ("kinds", names, [("made", word, self.pick(("n", "m")))])
        return ([step for step in whole[0] if step[0] == "sieve"] + [kinds], (x, self.order_wish()), (("straight",), None),
                ((mark, "left", "made", None),), colour, None, facet, whole[7])
