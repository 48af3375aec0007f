"""Points 20 and 22: boxes."""

import random
import unittest
from fractions import Fraction
from math import floor

from fieldwork import CORNERS, ORDER, TENS, Marks, field_of, item, place, whole
from markscale.boxes import boxes, five_of
from things import kept, told

UP = ("straight", (0, 1), (10, 1), 100)


def plain_five(numbers):
    """The plain reading of the five numbers."""
    ordered = sorted(Fraction(*one) for one in numbers)
    found = []
    for quarter in range(5):
        along = Fraction(quarter * (len(ordered) - 1), 4)
        low = ordered[floor(along)]
        high = ordered[min(floor(along) + 1, len(ordered) - 1)]
        found.append(told(low + (along - floor(along)) * (high - low)))
    return found


class Fives(unittest.TestCase):
    def check(self, numbers, five):
        self.assertEqual(kept(self, five_of, numbers), five)

    def test_few_numbers(self):
        self.check([(7, 3)], [(7, 3)] * 5)
        self.check([(4, 1), (0, 1)], [(0, 1), (1, 1), (2, 1), (3, 1), (4, 1)])
        self.check([(5, 1), (1, 1), (2, 1)], [(1, 1), (3, 2), (2, 1), (7, 2), (5, 1)])
        self.check([(8, 1), (1, 1), (0, 1), (4, 1)], [(0, 1), (3, 4), (5, 2), (5, 1), (8, 1)])
        self.check([(5, 1), (1, 1), (4, 1), (2, 1), (3, 1)], [(1, 1), (2, 1), (3, 1), (4, 1), (5, 1)])
        self.check([told(at) for at in range(6)], [(0, 1), (5, 4), (5, 2), (15, 4), (5, 1)])

    def test_alike_ones(self):
        for many in range(1, 10):
            self.check([(-1, 3)] * many, [(-1, 3)] * 5)
        self.check([(1, 1), (1, 1), (1, 1), (9, 1)], [(1, 1), (1, 1), (1, 1), (3, 1), (9, 1)])

    def test_fractions(self):
        self.check([(1, 2), (1, 3)], [(1, 3), (3, 8), (5, 12), (11, 24), (1, 2)])
        self.check([(-1, 7), (1, 7), (0, 1)], [(-1, 7), (-1, 14), (0, 1), (1, 14), (1, 7)])

    def test_by_plain_reading(self):
        chance = random.Random(3)
        for many in list(range(1, 20)) + [59, 60]:
            numbers = [told(chance.randint(-99, 99), chance.randint(1, 60)) for one in range(many)]
            self.check(numbers, plain_five(numbers))

    def test_what_is_told_is_the_askers_own(self):
        numbers = [(1, 1), (2, 1)]
        first = five_of(numbers)
        first.clear()
        self.assertEqual(numbers, [(1, 1), (2, 1)])
        self.assertEqual(len(five_of(numbers)), 5)


class Boxes(Marks):
    def test_one_to_six_numbers(self):
        field = field_of(ORDER, UP, 0, 0)
        for cells, ups in (([(4, 1)], [40] * 5), ([(4, 1), (0, 1)], [0, 10, 20, 30, 40]),
                           ([(5, 1), (1, 1), (2, 1)], [10, 15, 20, 35, 50]),
                           ([(8, 1), (1, 1), (0, 1), (4, 1)], [0, 8, 25, 50, 80]),
                           ([(5, 1), (1, 1), (4, 1), (2, 1), (3, 1)], [10, 20, 30, 40, 50]),
                           ([told(at) for at in range(6)], [0, 13, 25, 38, 50])):
            items = [item(at, "a", cell, None, 4, 2) for at, cell in enumerate(cells)]
            self.check(boxes, field, "left", items,
                       [(("five", "left", 37, 63, [100 - up for up in ups], 2), list(range(len(cells))))], [])

    def test_anywhere_and_on_turns(self):
        for x0, y0 in CORNERS:
            field = field_of(ORDER, TENS, x0, y0)
            items = [item(1, "b", (100, 1)), item(5, "b", (1, 10)), item(8, "b", (1, 1))]
            # The exact numbers are 1/10, 11/20, 1, 101/2, 100; each is put by its own place.
            ups = [0, 15, 30, whole(60 + Fraction(405, 10) / 90 * 30), 90]
            self.check(boxes, field, "right", items,
                       [(("five", "right", x0 + 3, x0 + 30, [y0 + 90 - up for up in ups], 0), [1, 5, 8])], [])

    def test_by_the_scales_order_then_rank_and_colour(self):
        field = field_of(ORDER, UP, 0, 0)
        items = [item(0, "c", (1, 1), None, 1, 1), item(1, "a", (1, 1), None, 13, 1), item(2, "a", (2, 1), None, 1, 2),
                 item(3, "a", (3, 1), None, 1, 1), item(4, "b", (4, 1), None, 5, 5), item(5, "a", (5, 1), None, 13, 1),
                 item(6, "c", (6, 1), None, 0, 9)]
        self.check(boxes, field, "left", items,
                   [(("five", "left", 3, 30, [60] * 5, 5), [4]), (("five", "left", 37, 63, [70] * 5, 1), [3]),
                    (("five", "left", 37, 63, [80] * 5, 2), [2]), (("five", "left", 37, 63, [90, 80, 70, 60, 50], 1), [1, 5]),
                    (("five", "left", 70, 97, [40] * 5, 9), [6]), (("five", "left", 70, 97, [90] * 5, 1), [0])], [])

    def test_without_a_place(self):
        field = field_of(ORDER, UP, 0, 0)
        items = [item(0, "d", (11, 1)), item(1, "a", (11, 1)), item(2, None, None), item(3, "a", None), item(4, "a", (4, 1)),
                 item(5, "a", (-1, 60)), item(6, "a", (8, 1), None)]
        self.check(boxes, field, "left", items, [(("five", "left", 37, 63, [60, 50, 40, 30, 20], 0), [4, 6])],
                   [(0, "x", "unknown"), (1, "y", "outside"), (2, "x", "nothing"), (3, "y", "nothing"), (5, "y", "outside")])
        self.check(boxes, field_of(ORDER, TENS), "left", [item(0, "a", (0, 1)), item(1, "a", (1000, 1))], [],
                   [(0, "y", "nought"), (1, "y", "outside")])

    def test_none_and_sixty(self):
        field = field_of(ORDER, UP, 0, 0)
        self.check(boxes, field, "left", [], [], [])
        items = [item(2 * at, "b", told(at, 6)) for at in range(60)]
        self.check(boxes, field, "left", items, [(("five", "left", 3, 30, [100, 75, 51, 26, 2], 0), [2 * at for at in range(60)])], [])

    def test_by_plain_reading(self):
        chance = random.Random(4)
        for scale in (UP, TENS):
            for turn in range(20):
                field = field_of(ORDER, scale, 3, 5)
                items = [item(at, "a", told(chance.randint(1, 99), 10), None) for at in range(chance.randint(1, 30))]
                shape = boxes(field, "left", items)[0][0][0]
                self.assertEqual(shape[4], [5 + scale[-1] - whole(place(scale, one)) for one in plain_five([one[2] for one in items])])

    def test_what_is_told_is_the_askers_own(self):
        self.check_own(boxes, field_of(ORDER, UP), [item(0, "a", (1, 1)), item(1, None, (0, 1))])


if __name__ == "__main__":
    unittest.main()
