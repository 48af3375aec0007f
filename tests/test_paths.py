"""Points 20 and 21: lines and bands."""

import random
import unittest
from fractions import Fraction

from fieldwork import BROKEN, CORNERS, DAY, DAYS, ORDER, PLACED, STRAIGHT, TENS, Marks, field_of, item, place, whole
from markscale.paths import bands, lines
from markscale.scales import place_on
from things import told


def plain(field, side, items, shape, channels):
    """The plain reading of lines and bands."""
    lost, groups = [], {}
    for one in items:
        cells = {"x": (field[0], one[1]), "y": (field[1], one[2]), "other": (field[1], one[3])}
        for channel in channels:
            found = place_on(*cells[channel])
            if isinstance(found, str):
                lost.append((one[0], channel, found))
                break
        else:
            groups.setdefault((one[4], one[5]), []).append(one)
    marks = []
    for (rank, colour), group in sorted(groups.items()):
        points = []
        for one in sorted(group, key=lambda one: (place(field[0], one[1]), one[0])):
            ys = [one[2]] if len(channels) == 2 else [one[2], one[3]]
            points.append((field[2] + whole(place(field[0], one[1])),
                           *[field[3] + field[5] - whole(place(field[1], y)) for y in ys]))
        marks.append(((shape, side, points, colour), sorted(one[0] for one in group)))
    return marks, lost


class Lines(Marks):
    def test_each_scale(self):
        for x, xs, xless in PLACED:
            for y, ys, yless in PLACED:
                for x0, y0 in CORNERS:
                    field = field_of(x, y, x0, y0)
                    for cell, along in xs:
                        for other, up in ys:
                            self.check(lines, field, "left", [item(4, cell, other, None, 13, 1, 20)],
                                       [(("path", "left", [(x0 + along, y0 + y[-1] - up)], 1), [4])], [])

    def test_without_a_place(self):
        self.check_lost_at_x_and_y(lines, None)

    def test_other_is_not_looked_at(self):
        field = field_of(STRAIGHT, STRAIGHT)
        for other in (None, (9, 1)):
            self.check(lines, field, "right", [item(0, (0, 1), (0, 1), other)], [(("path", "right", [(32, 71)], 0), [0])], [])

    def test_points_go_along_x(self):
        field = field_of(STRAIGHT, STRAIGHT, 0, 0)
        items = [item(1, (3, 1), (0, 1)), item(2, (-1, 1), (1, 1)), item(5, (4, 1), (1, 1)), item(6, (1, 1), (3, 1)),
                 item(9, (-1, 1), (-1, 1))]
        self.check(lines, field, "left", items,
                   [(("path", "left", [(0, 50), (0, 100), (50, 0), (100, 75)], 0), [1, 2, 6, 9])], [(5, "x", "outside")])

    def test_exact_places_where_the_rounded_ones_are_alike(self):
        field = field_of(STRAIGHT, STRAIGHT, 0, 0)
        items = [item(1, (1, 100), (0, 1)), item(2, (1, 300), (1, 1)), item(3, (1, 200), (2, 1)), item(4, (1, 300), (3, 1))]
        self.check(lines, field, "left", items, [(("path", "left", [(25, 50), (25, 0), (25, 25), (25, 75)], 0), [1, 2, 3, 4])], [])

    def test_by_rising_rank_and_colour(self):
        field = field_of(STRAIGHT, STRAIGHT, 0, 0)
        items = [item(at, (0, 1), told(at % 4), None, rank, colour)
                 for at, (rank, colour) in enumerate([(13, 1), (2, 2), (1, 1), (2, 0), (13, 1), (0, 7), (1, 1)])]
        self.check(lines, field, "left", items,
                   [(("path", "left", [(25, 50)], 7), [5]), (("path", "left", [(25, 25), (25, 25)], 1), [2, 6]),
                    (("path", "left", [(25, 0)], 0), [3]), (("path", "left", [(25, 50)], 2), [1]),
                    (("path", "left", [(25, 75), (25, 75)], 1), [0, 4])], [])

    def test_none_and_sixty(self):
        field = field_of(DAYS, TENS)
        self.check(lines, field, "left", [], [], [])
        items = [item(3 * at, DAY + 59 - at, (1, 1)) for at in range(60)]
        marks, lost = lines(field, "left", items)
        self.assertEqual(len(marks), 1)
        self.assertEqual(marks[0][1], [3 * at for at in range(49, 60)])
        self.assertEqual([point[0] for point in marks[0][0][2]], [7 + whole(Fraction(5 * at, 2)) for at in range(11)])
        self.assertEqual(lost, [(3 * at, "x", "outside") for at in range(49)])

    def test_by_plain_reading(self):
        chance = random.Random(1)
        for turn in range(60):
            x, xs, xless = chance.choice(PLACED)
            y, ys, yless = chance.choice(PLACED)
            field = field_of(x, y, chance.randint(-50, 50), chance.randint(-50, 50))
            x_cells = [pair[0] for pair in xs] * 3 + [pair[0] for pair in xless]
            y_cells = [pair[0] for pair in ys] * 3 + [pair[0] for pair in yless]
            items = [item(number, chance.choice(x_cells), chance.choice(y_cells), chance.choice(y_cells),
                          chance.randint(0, 2), chance.randint(0, 1)) for number in sorted(chance.sample(range(100), 30))]
            self.check(lines, field, "left", items, *plain(field, "left", items, "path", ("x", "y")))
            self.check(bands, field, "right", items, *plain(field, "right", items, "band", ("x", "y", "other")))


class Bands(Marks):
    def test_each_scale(self):
        for x, xs, xless in PLACED:
            for y, ys, yless in PLACED:
                field = field_of(x, y, -3, 9)
                for cell, along in xs:
                    for one, up in ys:
                        for other, higher in ys:
                            self.check(bands, field, "right", [item(4, cell, one, other, 13, 1)],
                                       [(("band", "right", [(-3 + along, 9 + y[-1] - up, 9 + y[-1] - higher)], 1), [4])], [])

    def test_without_a_place(self):
        self.check_lost_at_x_and_y(bands, None)
        for x, xs, xless in PLACED:
            for y, ys, yless in PLACED:
                for cell, reason in yless:
                    self.check(bands, field_of(x, y), "left", [item(0, xless[0][0], ys[0][0], cell)], [], [(0, "x", xless[0][1])])
                    self.check(bands, field_of(x, y), "left", [item(0, xs[0][0], ys[0][0], cell)], [], [(0, "other", reason)])

    def test_nothing_at_other(self):
        field = field_of(STRAIGHT, BROKEN, 0, 0)
        items = [item(0, (0, 1), (0, 1), (60, 1)), item(1, (1, 1), (0, 1), None), item(2, (-1, 1), (10, 1), (5, 1)),
                 item(3, (1, 1), None, None), item(4, (1, 1), (0, 1), (20, 1))]
        self.check(bands, field, "left", items, [(("band", "left", [(0, 60, 80), (25, 100, 0)], 0), [0, 2])],
                   [(1, "other", "nothing"), (3, "y", "nothing"), (4, "other", "gap")])

    def test_ranks_and_exact_places(self):
        field = field_of(STRAIGHT, STRAIGHT, 0, 0)
        items = [item(1, (1, 100), (0, 1), (1, 1), 1, 0), item(2, (1, 300), (1, 1), (0, 1), 1, 0), item(3, (2, 1), (2, 1), (2, 1), 0, 4),
                 item(7, (1, 300), (3, 1), (3, 1), 1, 0), item(8, (0, 1), (0, 1), (0, 1), 1, 1)]
        self.check(bands, field, "left", items,
                   [(("band", "left", [(75, 25, 25)], 4), [3]),
                    (("band", "left", [(25, 50, 75), (25, 0, 0), (25, 75, 50)], 0), [1, 2, 7]),
                    (("band", "left", [(25, 75, 75)], 1), [8])], [])

    def test_none(self):
        self.check(bands, field_of(ORDER, ORDER), "left", [], [], [])


class OwnThings(Marks):
    def test_what_is_told_is_the_askers_own(self):
        for call in (lines, bands):
            self.check_own(call, field_of(ORDER, STRAIGHT), [item(0, "a", (0, 1), (1, 1)), item(1, None, (0, 1), None)])


if __name__ == "__main__":
    unittest.main()
