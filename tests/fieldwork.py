"""Scales, fields and items for the tests of marks, and the plain reading of places."""

import copy
import unittest
from fractions import Fraction
from math import floor

from markscale.days import day_of
from markscale.scales import place_on
from things import kept

DAY = day_of(2024, 2, 29)
STRAIGHT = ("straight", (-1, 1), (3, 1), 100)
TENS = ("turns", 10, -1, 3, 90)
BROKEN = ("broken", [((0, 1), (10, 1), 0, 40), ((50, 1), (60, 1), 46, 100)], 100)
DAYS = ("days", DAY, DAY + 10, 25)
ORDER = ("order", ["b", "a", "c"], 100)

# Of each scale: cells that have a place, each with the rounded one, and cells that have none, each with the reason.
PLACED = (
    (STRAIGHT, [((-1, 1), 0), ((3, 1), 100), ((1, 3), 33), ((1, 2), 38), ((0, 1), 25)],
     [((4, 1), "outside"), ((-2, 1), "outside"), (None, "nothing")]),
    (TENS, [((1, 10), 0), ((1, 1), 30), ((100, 1), 90), ((11, 2), 45)],
     [((0, 1), "nought"), ((-1, 1), "nought"), ((1, 11), "outside"), ((101, 1), "outside"), (None, "nothing")]),
    (BROKEN, [((0, 1), 0), ((10, 1), 40), ((50, 1), 46), ((60, 1), 100), ((1, 8), 1)],
     [((11, 1), "gap"), ((49, 1), "gap"), ((-1, 1), "outside"), ((61, 1), "outside"), (None, "nothing")]),
    (DAYS, [(DAY, 0), (DAY + 1, 3), (DAY + 10, 25)], [(DAY - 1, "outside"), (DAY + 11, "outside"), (None, "nothing")]),
    (ORDER, [("b", 17), ("a", 50), ("c", 83)], [("d", "unknown"), (None, "nothing")]),
)
CORNERS = ((0, 0), (12, 340), (-999999, 999999), (5, -5))


def field_of(x, y, x0=7, y0=-4):
    return copy.deepcopy((x, y, x0, y0, x[-1], y[-1]))


def item(number, x, y, other="text", rank=0, colour=0, size=3):
    return (number, x, y, other, rank, colour, size)


def whole(place):
    """A place as it is rounded: a half goes up."""
    return floor(Fraction(place) + Fraction(1, 2))


def place(scale, cell):
    """An exact place, as a fraction."""
    return Fraction(*place_on(scale, cell))


def emptied(thing):
    """Take all out of each list within lists and tuples."""
    if isinstance(thing, (list, tuple)):
        for part in thing:
            emptied(part)
    if isinstance(thing, list):
        thing.clear()


class Marks(unittest.TestCase):
    def check(self, call, field, side, items, marks, lost):
        self.assertEqual(kept(self, call, field, side, items), (marks, lost))

    def check_lost_at_x_and_y(self, call, other):
        """Each reason of each scale at x, ahead of what is at y, and at y."""
        for x, xs, xless in PLACED:
            for y, ys, yless in PLACED:
                field = field_of(x, y)
                for cell, reason in xless:
                    for above in (ys[0][0], yless[0][0], None):
                        self.check(call, field, "left", [item(0, cell, above, other)], [], [(0, "x", reason)])
                for cell, reason in yless:
                    self.check(call, field, "left", [item(0, xs[0][0], cell, other)], [], [(0, "y", reason)])

    def check_own(self, call, field, items):
        """What is told is the asker's own, and hangs on nothing that is done to it or to what was handed in."""
        first = call(field, "left", items)
        again = call(field, "left", items)
        before = copy.deepcopy(again)
        self.assertNotEqual(before[0], [])
        self.assertNotEqual(before[1], [])
        emptied(first)
        self.assertEqual(again, before)
        self.assertEqual(call(field, "left", items), before)
        emptied((field, items))
        self.assertEqual(again, before)
