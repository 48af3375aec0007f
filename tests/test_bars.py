"""Points 20 and 22: bars and heaps."""

import random
import unittest
from fractions import Fraction

from fieldwork import BROKEN, CORNERS, ORDER, STRAIGHT, TENS, Marks, field_of, item, place, whole
from markscale.bars import bars, heaps
from markscale.scales import place_on
from things import kept, told, words_many

UP = ("straight", (0, 1), (10, 1), 100)
ABOVE = ("straight", (2, 1), (12, 1), 100)
BELOW = ("straight", (-12, 1), (-2, 1), 100)
PIECES = ("broken", [((1, 1), (5, 1), 0, 40), ((6, 1), (12, 1), 46, 106)], 106)
GAP = ("broken", [((-5, 1), (-1, 1), 0, 40), ((1, 1), (7, 1), 46, 106)], 106)
# The ends of the bars of ORDER's words, a tenth within the stretches from 0, 100/3, 200/3 to 100.
ENDS = {"b": (3, 30), "a": (37, 63), "c": (70, 97)}


def plain_heaps(field, side, items):
    """The plain reading of heaps."""
    lost, marks = [], []
    zero = place_on(field[1], (0, 1))
    base = Fraction(0) if isinstance(zero, str) else Fraction(*zero)
    for one in items:
        if one[1] not in field[0][1]:
            lost.append((one[0], "x", "nothing" if one[1] is None else "unknown"))
        elif one[2] is None:
            lost.append((one[0], "y", "nothing"))
        elif one[2][0] < 0:
            lost.append((one[0], "y", "below"))
    gone = [entry[0] for entry in lost]
    for at, word in enumerate(field[0][1]):
        stretch = Fraction(field[4], len(field[0][1]))
        x0, x1 = [field[2] + whole(stretch * at + stretch * part / 10) for part in (1, 9)]
        total, begin = Fraction(0), base
        for one in sorted([one for one in items if one[1] == word and one[0] not in gone], key=lambda one: (one[4], one[0])):
            found = place_on(field[1], told(total + Fraction(*one[2])))
            if isinstance(found, str):
                lost.append((one[0], "y", found))
                continue
            total += Fraction(*one[2])
            marks.append((("part", side, x0, x1, field[3] + field[5] - whole(begin), field[3] + field[5] - whole(Fraction(*found)),
                           one[5]), [one[0]]))
            begin = Fraction(*found)
    return marks, sorted(lost)


class Bars(Marks):
    def base_and_end(self, scale, cell, x0=0, y0=0):
        """Base and end of one bar, counted from the bottom up."""
        marks, lost = bars(field_of(ORDER, scale, x0, y0), "left", [item(3, "a", cell, None, 0, 5)])
        self.assertEqual(lost, [])
        shape, numbers = marks[0]
        self.assertEqual(shape[:4], ("bar", "left", x0 + 37, x0 + 63))
        self.assertEqual((shape[6], numbers, len(marks)), (5, [3], 1))
        return tuple([y0 + scale[-1] - at for at in shape[4:6]])

    def test_nought_on_the_scale(self):
        self.assertEqual(self.base_and_end(UP, (5, 1)), (0, 50))
        self.assertEqual(self.base_and_end(UP, (0, 1)), (0, 0))
        self.assertEqual(self.base_and_end(STRAIGHT, (3, 1)), (25, 100))
        self.assertEqual(self.base_and_end(BROKEN, (55, 1)), (0, 73))

    def test_below_nought(self):
        self.assertEqual(self.base_and_end(STRAIGHT, (-1, 1)), (25, 0))
        self.assertEqual(self.base_and_end(STRAIGHT, (-1, 3)), (25, 17))

    def test_nought_that_has_no_place(self):
        self.assertEqual(self.base_and_end(ABOVE, (7, 1)), (0, 50))
        self.assertEqual(self.base_and_end(BELOW, (-7, 1)), (0, 50))
        self.assertEqual(self.base_and_end(TENS, (10, 1)), (0, 60))
        self.assertEqual(self.base_and_end(PIECES, (6, 1)), (0, 46))
        self.assertEqual(self.base_and_end(GAP, (-5, 1)), (0, 0))
        self.assertEqual(self.base_and_end(GAP, (7, 1)), (0, 106))

    def test_anywhere(self):
        for x0, y0 in CORNERS:
            self.assertEqual(self.base_and_end(STRAIGHT, (-1, 3), x0, y0), (25, 17))
            self.assertEqual(self.base_and_end(TENS, (10, 1), x0, y0), (0, 60))

    def test_ends_a_tenth_within_the_stretch(self):
        field = field_of(ORDER, UP, 0, 0)
        for word in "bac":
            self.check(bars, field, "right", [item(0, word, (10, 1))], [(("bar", "right", *ENDS[word], 100, 0, 0), [0])], [])
        for many in (1, 2, 7, 60):
            for length in (1, 24, 61, 333):
                words = words_many(many)
                field = field_of(("order", words, length), UP, 4, 0)
                marks, lost = bars(field, "left", [item(at, word, (1, 1)) for at, word in enumerate(words)])
                for at, (shape, numbers) in enumerate(marks):
                    self.assertEqual(shape[2:4], (4 + whole(Fraction(length * (10 * at + 1), 10 * many)),
                                                  4 + whole(Fraction(length * (10 * at + 9), 10 * many))))

    def test_by_items(self):
        field = field_of(ORDER, UP, 0, 0)
        items = [item(1, "c", (1, 1), None, 9, 9), item(2, "d", (1, 1)), item(3, "b", (2, 1), None, 1, 1), item(4, "c", (11, 1)),
                 item(5, None, None), item(6, "c", (1, 1), None, 0, 3), item(8, "a", None)]
        self.check(bars, field, "left", items,
                   [(("bar", "left", 70, 97, 100, 90, 9), [1]), (("bar", "left", 3, 30, 100, 80, 1), [3]),
                    (("bar", "left", 70, 97, 100, 90, 3), [6])],
                   [(2, "x", "unknown"), (4, "y", "outside"), (5, "x", "nothing"), (8, "y", "nothing")])

    def test_reasons_of_each_scale(self):
        for scale, cell, reason in ((TENS, (0, 1), "nought"), (TENS, (-1, 1), "nought"), (TENS, (1000, 1), "outside"),
                                    (GAP, (0, 1), "gap"), (GAP, (8, 1), "outside"), (ABOVE, (0, 1), "outside"), (UP, None, "nothing")):
            self.check(bars, field_of(ORDER, scale), "left", [item(0, "b", cell)], [], [(0, "y", reason)])
            self.check(bars, field_of(ORDER, scale), "left", [item(0, "z", cell)], [], [(0, "x", "unknown")])

    def test_none_and_sixty(self):
        self.check(bars, field_of(ORDER, UP), "left", [], [], [])
        marks, lost = bars(field_of(ORDER, UP), "left", [item(at, "b", (1, 1)) for at in range(60)])
        self.assertEqual([numbers for shape, numbers in marks], [[at] for at in range(60)])


class Heaps(Marks):
    def parts(self, scale, items):
        """From and to of each part of one heap, counted from the bottom up, with its numbers; and what is lost."""
        marks, lost = kept(self, heaps, field_of(ORDER, scale, 0, 0), "left", items)
        for shape, numbers in marks:
            self.assertEqual(shape[:4], ("part", "left", 3, 30))
        return [(scale[-1] - shape[4], scale[-1] - shape[5], numbers) for shape, numbers in marks], lost

    def test_one_on_the_other(self):
        items = [item(0, "b", (1, 1), None, 2), item(1, "b", (2, 1), None, 0), item(2, "b", (3, 1), None, 1),
                 item(3, "b", (4, 1), None, 0)]
        self.assertEqual(self.parts(UP, items), ([(0, 20, [1]), (20, 60, [3]), (60, 90, [2]), (90, 100, [0])], []))

    def test_colours_and_sides(self):
        field = field_of(ORDER, UP, 5, 6)
        items = [item(0, "a", (1, 1), None, 13, 1), item(1, "a", (1, 1), None, 2, 2)]
        self.check(heaps, field, "right", items, [(("part", "right", 42, 68, 106, 96, 2), [1]), (("part", "right", 42, 68, 96, 86, 1), [0])], [])

    def test_exact_sums_are_rounded_once(self):
        items = [item(at, "b", (1, 30)) for at in range(6)]
        self.assertEqual(self.parts(UP, items)[0], [(0, 0, [0]), (0, 1, [1]), (1, 1, [2]), (1, 1, [3]), (1, 2, [4]), (2, 2, [5])])

    def test_below_nought(self):
        items = [item(0, "b", (5, 1)), item(1, "b", (-1, 1)), item(2, "b", (-1, 1000)), item(3, "b", (1, 1)), item(4, "z", (-1, 1)),
                 item(5, None, (-1, 1)), item(6, "b", None)]
        self.assertEqual(self.parts(UP, items), ([(0, 50, [0]), (50, 60, [3])],
                                                 [(1, "y", "below"), (2, "y", "below"), (4, "x", "unknown"), (5, "x", "nothing"),
                                                  (6, "y", "nothing")]))
        self.assertEqual(self.parts(STRAIGHT, [item(0, "b", (-1, 2)), item(1, "b", (1, 1))]), ([(25, 50, [1])], [(0, "y", "below")]))
        self.assertEqual(self.parts(TENS, [item(0, "b", (-1, 2))]), ([], [(0, "y", "below")]))

    def test_a_sum_that_has_no_place(self):
        # 4 and 7 pass the end; 7 is left out, and 6 stands on 4.
        items = [item(0, "b", (4, 1)), item(1, "b", (7, 1)), item(2, "b", (6, 1)), item(3, "b", (1, 60))]
        self.assertEqual(self.parts(UP, items), ([(0, 40, [0]), (40, 100, [2])], [(1, "y", "outside"), (3, "y", "outside")]))
        # Beneath the scale's begin there is no place; the first sum that has one stands on the begin.
        items = [item(0, "b", (1, 1)), item(1, "b", (3, 1)), item(2, "b", (1, 1))]
        self.assertEqual(self.parts(ABOVE, items), ([(0, 10, [1]), (10, 20, [2])], [(0, "y", "outside")]))
        items = [item(0, "b", (1, 1)), item(1, "b", (9, 2)), item(2, "b", (4, 1)), item(3, "b", (2, 1))]
        self.assertEqual(self.parts(PIECES, items), ([(0, 0, [0]), (0, 40, [2]), (40, 56, [3])], [(1, "y", "gap")]))
        self.assertEqual(self.parts(TENS, [item(0, "b", (1, 20)), item(1, "b", (1, 1)), item(2, "b", (100, 1)), item(3, "b", (9, 1))]),
                         ([(0, 30, [1]), (30, 60, [3])], [(0, "y", "outside"), (2, "y", "outside")]))

    def test_nought(self):
        items = [item(0, "b", (0, 1)), item(1, "b", (3, 1)), item(2, "b", (0, 1))]
        self.assertEqual(self.parts(UP, items), ([(0, 0, [0]), (0, 30, [1]), (30, 30, [2])], []))
        self.assertEqual(self.parts(STRAIGHT, items), ([(25, 25, [0]), (25, 100, [1]), (100, 100, [2])], []))
        # Where 0 itself has no place, an item of 0 stands on others alone.
        self.assertEqual(self.parts(TENS, items), ([(0, 37, [1]), (37, 37, [2])], [(0, "y", "nought")]))
        self.assertEqual(self.parts(ABOVE, items), ([(0, 10, [1]), (10, 10, [2])], [(0, "y", "outside")]))
        self.assertEqual(self.parts(GAP, items), ([(0, 66, [1]), (66, 66, [2])], [(0, "y", "gap")]))

    def test_several_words_in_the_scales_order(self):
        field = field_of(ORDER, UP, 0, 0)
        items = [item(0, "c", (1, 1)), item(1, "a", (1, 1)), item(2, "b", (1, 1), None, 3), item(3, "a", (2, 1)), item(4, "b", (2, 1)),
                 item(5, "d", (1, 1)), item(6, "c", (20, 1))]
        self.check(heaps, field, "left", items,
                   [(("part", "left", 3, 30, 100, 80, 0), [4]), (("part", "left", 3, 30, 80, 70, 0), [2]),
                    (("part", "left", 37, 63, 100, 90, 0), [1]), (("part", "left", 37, 63, 90, 70, 0), [3]),
                    (("part", "left", 70, 97, 100, 90, 0), [0])],
                   [(5, "x", "unknown"), (6, "y", "outside")])

    def test_lost_comes_by_rising_numbers(self):
        field = field_of(ORDER, UP, 0, 0)
        items = [item(0, "c", (11, 1)), item(1, "b", (-1, 1)), item(2, "b", (11, 1)), item(3, "z", (1, 1)), item(4, "a", (11, 1))]
        self.check(heaps, field, "left", items, [],
                   [(0, "y", "outside"), (1, "y", "below"), (2, "y", "outside"), (3, "x", "unknown"), (4, "y", "outside")])

    def test_none_and_sixty(self):
        self.check(heaps, field_of(ORDER, UP), "left", [], [], [])
        parts, lost = self.parts(UP, [item(at, "b", (1, 6), None, 59 - at) for at in range(60)])
        self.assertEqual(lost, [])
        self.assertEqual([numbers for begin, end, numbers in parts], [[at] for at in reversed(range(60))])
        self.assertEqual([end for begin, end, numbers in parts], [whole(Fraction(10 * at, 6)) for at in range(1, 61)])

    def test_by_plain_reading(self):
        chance = random.Random(2)
        for scale in (UP, STRAIGHT, ABOVE, BELOW, TENS, BROKEN, PIECES, GAP):
            for turn in range(20):
                field = field_of(ORDER, scale, chance.randint(-50, 50), chance.randint(-50, 50))
                items = [item(number, chance.choice(["a", "b", "c", "d", None, "a", "b"]),
                              chance.choice([None, told(chance.randint(-3, 9), chance.choice((1, 2, 7))), told(chance.randint(0, 8))]),
                              None, chance.randint(0, 3), chance.randint(0, 3)) for number in sorted(chance.sample(range(100), 25))]
                self.check(heaps, field, "left", items, *plain_heaps(field, "left", items))
                for shape, numbers in bars(field, "left", items)[0]:
                    cell = [one[2] for one in items if one[0] == numbers[0]][0]
                    self.assertEqual(shape[5], field[3] + field[5] - whole(place(scale, cell)))


class OwnThings(Marks):
    def test_what_is_told_is_the_askers_own(self):
        for call in (bars, heaps):
            self.check_own(call, field_of(ORDER, BROKEN), [item(0, "a", (1, 1)), item(1, None, (0, 1))])


if __name__ == "__main__":
    unittest.main()
