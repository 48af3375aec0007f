"""Points 20 and 21: dots and words."""

import unittest

from fieldwork import BROKEN, CORNERS, DAY, DAYS, ORDER, PLACED, STRAIGHT, TENS, Marks, field_of, item, place, whole
from markscale.spots import dots, words
from things import told, words_many


class Dots(Marks):
    def test_each_scale(self):
        for x, xs, xless in PLACED:
            for y, ys, yless in PLACED:
                for x0, y0 in CORNERS:
                    field = field_of(x, y, x0, y0)
                    for cell, along in xs:
                        for other, up in ys:
                            self.check(dots, field, "left", [item(4, cell, other, None, 1, 2, 20)],
                                       [(("dot", "left", x0 + along, y0 + y[-1] - up, 20, 2), [4])], [])

    def test_without_a_place(self):
        self.check_lost_at_x_and_y(dots, None)

    def test_other_is_not_looked_at(self):
        field = field_of(STRAIGHT, STRAIGHT)
        for other in (None, "a", (9, 1)):
            self.check(dots, field, "right", [item(0, (0, 1), (0, 1), other)], [(("dot", "right", 32, 71, 3, 0), [0])], [])

    def test_many_items(self):
        field = field_of(STRAIGHT, ORDER, 0, 0)
        items = [item(2, (3, 1), "b", None, 5, 1, 4), item(3, (4, 1), "b"), item(7, (3, 1), "b", None, 5, 1, 4),
                 item(8, (0, 1), None), item(20, (-1, 1), "c", "no", 0, 0, 1), item(21, None, None)]
        self.check(dots, field, "left", items,
                   [(("dot", "left", 100, 83, 4, 1), [2]), (("dot", "left", 100, 83, 4, 1), [7]),
                    (("dot", "left", 0, 17, 1, 0), [20])],
                   [(3, "x", "outside"), (8, "y", "nothing"), (21, "x", "nothing")])

    def test_none_and_sixty(self):
        field = field_of(ORDER, ORDER)
        self.check(dots, field, "left", [], [], [])
        marks, lost = dots(field, "left", [item(2 * at, "b" if at % 2 else "d", "a") for at in range(60)])
        self.assertEqual(len(marks), 30)
        self.assertEqual(lost, [(4 * at, "x", "unknown") for at in range(30)])
        self.assertEqual([numbers for shape, numbers in marks], [[4 * at + 2] for at in range(30)])

    def test_no_more_than_half_a_place_off(self):
        field = field_of(STRAIGHT, TENS, 10, 20)
        for top in range(4, 120):
            cell = told(top, 40)
            shape = dots(field, "left", [item(0, cell, cell)])[0][0][0]
            self.assertEqual(shape[2:4], (10 + whole(place(STRAIGHT, cell)), 20 + 90 - whole(place(TENS, cell))))


class Words(Marks):
    def test_each_scale(self):
        for x, xs, xless in PLACED:
            for y, ys, yless in PLACED:
                field = field_of(x, y, -3, 9)
                for cell, along in xs:
                    for other, up in ys:
                        self.check(words, field, "right", [item(4, cell, other, "bern", 13, 1, 20)],
                                   [(("word", "right", -3 + along, 9 + y[-1] - up, "bern", 1), [4])], [])

    def test_without_a_place(self):
        self.check_lost_at_x_and_y(words, "bern")
        self.check_lost_at_x_and_y(words, None)
        for x, xs, xless in PLACED:
            for y, ys, yless in PLACED:
                self.check(words, field_of(x, y), "left", [item(0, xs[0][0], ys[0][0], None)], [], [(0, "other", "nothing")])

    def test_words_of_no_order_of_the_field(self):
        field = field_of(ORDER, ORDER, 0, 0)
        self.check(words, field, "left", [item(0, "b", "b", "unknown")], [(("word", "left", 17, 83, "unknown", 0), [0])], [])

    def test_many_items(self):
        field = field_of(DAYS, BROKEN, 0, 0)
        items = [item(0, DAY, (0, 1), "a"), item(1, DAY, (0, 1), None), item(3, None, None, None), item(4, DAY + 10, (60, 1), "b"),
                 item(5, DAY, (20, 1), None), item(9, DAY, (0, 1), "a")]
        self.check(words, field, "left", items,
                   [(("word", "left", 0, 100, "a", 0), [0]), (("word", "left", 25, 0, "b", 0), [4]), (("word", "left", 0, 100, "a", 0), [9])],
                   [(1, "other", "nothing"), (3, "x", "nothing"), (5, "y", "gap")])

    def test_none_and_sixty(self):
        field = field_of(ORDER, ORDER, 0, 0)
        self.check(words, field, "left", [], [], [])
        sixty = words_many(60)
        marks, lost = words(field, "left", [item(at, "b", "b", text) for at, text in enumerate(sixty)])
        self.assertEqual(marks, [(("word", "left", 17, 83, text, 0), [at]) for at, text in enumerate(sixty)])
        self.assertEqual(lost, [])


class OwnThings(Marks):
    def test_what_is_told_is_the_askers_own(self):
        for call in (dots, words):
            self.check_own(call, field_of(STRAIGHT, ORDER), [item(0, (0, 1), "a"), item(1, None, "a")])


if __name__ == "__main__":
    unittest.main()
