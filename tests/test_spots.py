"""Points 20 and 21: dots and words."""

import unittest
from fractions import Fraction
from math import floor

from markscale.days import day_of
from markscale.scales import place_on
from markscale.spots import dots, words
from things import kept, words_many

DAY = day_of(2024, 2, 29)
STRAIGHT = ("straight", (-1, 1), (3, 1), 100)
TENS = ("turns", 10, -1, 3, 90)
BROKEN = ("broken", [((0, 1), (10, 1), 0, 40), ((50, 1), (60, 1), 46, 100)], 100)
DAYS = ("days", DAY, DAY + 10, 25)
ORDER = ("order", ["b", "a", "c"], 100)

# Of each scale: cells that have a place, each with the rounded one, and cells that have none, each with the reason.
PLACED = (
    (STRAIGHT, [((-1, 1), 0), ((3, 1), 100), ((1, 3), 33), ((1, 2), 38), ((0, 1), 25)],
     [((4, 1), "outside"), ((-2, 1), "outside"), (None, "nothing")]),
    (TENS, [((1, 10), 0), ((1, 1), 30), ((100, 1), 90), ((11, 2), 45)],
     [((0, 1), "nought"), ((-1, 1), "nought"), ((1, 11), "outside"), ((101, 1), "outside"), (None, "nothing")]),
    (BROKEN, [((0, 1), 0), ((10, 1), 40), ((50, 1), 46), ((60, 1), 100), ((1, 8), 1)],
     [((11, 1), "gap"), ((49, 1), "gap"), ((-1, 1), "outside"), ((61, 1), "outside"), (None, "nothing")]),
    (DAYS, [(DAY, 0), (DAY + 1, 3), (DAY + 10, 25)], [(DAY - 1, "outside"), (DAY + 11, "outside"), (None, "nothing")]),
    (ORDER, [("b", 17), ("a", 50), ("c", 83)], [("d", "unknown"), (None, "nothing")]),
)


def field_of(x, y, x0=7, y0=-4):
    return (x, y, x0, y0, x[-1], y[-1])


def item(number, x, y, other="text", rank=0, colour=0, size=3):
    return (number, x, y, other, rank, colour, size)


class Spots(unittest.TestCase):
    def check(self, call, field, side, items, marks, lost):
        self.assertEqual(kept(self, call, field, side, items), (marks, lost))


class Dots(Spots):
    def test_each_scale(self):
        for x, xs, xless in PLACED:
            for y, ys, yless in PLACED:
                for x0, y0 in ((0, 0), (12, 340), (-999999, 999999), (5, -5)):
                    field = field_of(x, y, x0, y0)
                    for cell, along in xs:
                        for other, up in ys:
                            self.check(dots, field, "left", [item(4, cell, other, None, 1, 2, 20)],
                                       [(("dot", "left", x0 + along, y0 + y[-1] - up, 20, 2), [4])], [])

    def test_without_a_place(self):
        for x, xs, xless in PLACED:
            for y, ys, yless in PLACED:
                field = field_of(x, y)
                for cell, reason in xless:
                    for other in [ys[0][0], yless[0][0], None]:
                        self.check(dots, field, "left", [item(0, cell, other, None)], [], [(0, "x", reason)])
                for cell, reason in yless:
                    self.check(dots, field, "left", [item(0, xs[0][0], cell, None)], [], [(0, "y", reason)])

    def test_other_is_not_looked_at(self):
        field = field_of(STRAIGHT, STRAIGHT)
        for other in (None, "a", (9, 1)):
            self.check(dots, field, "right", [item(0, (0, 1), (0, 1), other)], [(("dot", "right", 32, 71, 3, 0), [0])], [])

    def test_many_items(self):
        field = field_of(STRAIGHT, ORDER, 0, 0)
        items = [item(2, (3, 1), "b", None, 5, 1, 4), item(3, (4, 1), "b"), item(7, (3, 1), "b", None, 5, 1, 4),
                 item(8, (0, 1), None), item(20, (-1, 1), "c", "no", 0, 0, 1), item(21, None, None)]
        self.check(dots, field, "left", items,
                   [(("dot", "left", 100, 83, 4, 1), [2]), (("dot", "left", 100, 83, 4, 1), [7]),
                    (("dot", "left", 0, 17, 1, 0), [20])],
                   [(3, "x", "outside"), (8, "y", "nothing"), (21, "x", "nothing")])

    def test_none_and_sixty(self):
        field = field_of(ORDER, ORDER)
        self.check(dots, field, "left", [], [], [])
        marks, lost = dots(field, "left", [item(2 * at, "b" if at % 2 else "d", "a") for at in range(60)])
        self.assertEqual(len(marks), 30)
        self.assertEqual(lost, [(4 * at, "x", "unknown") for at in range(30)])
        self.assertEqual([numbers for shape, numbers in marks], [[4 * at + 2] for at in range(30)])

    def test_no_more_than_half_a_place_off(self):
        field = field_of(STRAIGHT, TENS, 10, 20)
        for top in range(1, 120):
            cell = (Fraction(top, 40).numerator, Fraction(top, 40).denominator)
            shape = dots(field, "left", [item(0, cell, cell)])[0][0][0] if Fraction(top, 40) >= Fraction(1, 10) else None
            if shape is not None:
                self.assertEqual(shape[2], 10 + floor(Fraction(*place_on(STRAIGHT, cell)) + Fraction(1, 2)))
                self.assertEqual(shape[3], 20 + 90 - floor(Fraction(*place_on(TENS, cell)) + Fraction(1, 2)))


class Words(Spots):
    def test_each_scale(self):
        for x, xs, xless in PLACED:
            for y, ys, yless in PLACED:
                field = field_of(x, y, -3, 9)
                for cell, along in xs:
                    for other, up in ys:
                        self.check(words, field, "right", [item(4, cell, other, "bern", 13, 1, 20)],
                                   [(("word", "right", -3 + along, 9 + y[-1] - up, "bern", 1), [4])], [])

    def test_without_a_place(self):
        for x, xs, xless in PLACED:
            for y, ys, yless in PLACED:
                field = field_of(x, y)
                for text in ("bern", None):
                    for cell, reason in xless:
                        for other in [ys[0][0], yless[0][0], None]:
                            self.check(words, field, "left", [item(0, cell, other, text)], [], [(0, "x", reason)])
                    for cell, reason in yless:
                        self.check(words, field, "left", [item(0, xs[0][0], cell, text)], [], [(0, "y", reason)])
                self.check(words, field, "left", [item(0, xs[0][0], ys[0][0], None)], [], [(0, "other", "nothing")])

    def test_words_of_no_order_of_the_field(self):
        field = field_of(ORDER, ORDER, 0, 0)
        self.check(words, field, "left", [item(0, "b", "b", "unknown")], [(("word", "left", 17, 83, "unknown", 0), [0])], [])

    def test_many_items(self):
        field = field_of(DAYS, BROKEN, 0, 0)
        items = [item(0, DAY, (0, 1), "a"), item(1, DAY, (0, 1), None), item(3, None, None, None), item(4, DAY + 10, (60, 1), "b"),
                 item(5, DAY, (20, 1), None), item(9, DAY, (0, 1), "a")]
        self.check(words, field, "left", items,
                   [(("word", "left", 0, 100, "a", 0), [0]), (("word", "left", 25, 0, "b", 0), [4]), (("word", "left", 0, 100, "a", 0), [9])],
                   [(1, "other", "nothing"), (3, "x", "nothing"), (5, "y", "gap")])

    def test_none_and_sixty(self):
        field = field_of(ORDER, ORDER, 0, 0)
        self.check(words, field, "left", [], [], [])
        sixty = words_many(60)
        marks, lost = words(field, "left", [item(at, "b", "b", text) for at, text in enumerate(sixty)])
        self.assertEqual(marks, [(("word", "left", 17, 83, text, 0), [at]) for at, text in enumerate(sixty)])
        self.assertEqual(lost, [])


class OwnThings(unittest.TestCase):
    def test_what_is_told_is_the_askers_own(self):
        field = field_of(STRAIGHT, STRAIGHT)
        for call in (dots, words):
            items = [item(0, (0, 1), (0, 1)), item(1, None, (0, 1))]
            first = call(field, "left", items)
            again = call(field, "left", items)
            items.clear()
            first[0][0][1].append(5)
            first[0].clear()
            first[1].clear()
            self.assertEqual(len(again[0]), 1)
            self.assertEqual(again[0][0][1], [0])
            self.assertEqual(call(field, "left", [item(0, (0, 1), (0, 1)), item(1, None, (0, 1))]), again)


if __name__ == "__main__":
    unittest.main()
