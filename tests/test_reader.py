"""Points 28 to 31: what shapes tell back, and which of them can't be told apart."""

import copy
import random
import unittest
from fractions import Fraction

from chance import Chance
from fieldwork import emptied
from markscale.boxes import five_of
from markscale.days import day_of, show_day
from markscale.errors import NoPlan, NoSpace
from markscale.fields import bar_ends, base_on
from markscale.reader import not_apart, read_back
from markscale.scales import place_on
from otherpapers import Others
from plaindraw import Plain
from things import fraction, kept, told

DAY = day_of(2024, 2, 29)
# Of each scale: the axis's word, and ticks along a length of 100.
STRAIGHT = ("straight", [(0, "0"), (100, "200")])
TENS = ("turns 10", [(0, "1/10"), (50, "1"), (100, "10")])
BROKEN = ("broken", [(0, "0"), (40, "10"), (46, "50"), (100, "77")])
DAYS = ("days", [(0, show_day(DAY)), (100, show_day(DAY + 200))])
ORDER = ("order", [(17, "b"), (50, "a"), (83, "c")])
HEADS = {"dot": "dots", "bar": "bars", "part": "heaps", "path": "lines", "band": "bands", "five": "boxes", "word": "words"}


def frame_of(x, left, right=None, at=(10, 20), title=""):
    """The shapes of a frame of 100 by 100 with these axes."""
    shapes = [("frame", title, at[0], at[1], 100, 100)]
    for side, axis in (("x", x), ("left", left), ("right", right)):
        if axis is not None:
            shapes.append(("axis", side, axis[0]))
            shapes += [("tick", side, at[0] + place if side == "x" else at[1] + 100 - place, text) for place, text in axis[1]]
    return shapes


def legend(channel, word, *keys):
    return [("legend", channel, word)] + [("key", channel, 5, 8 + 12 * at, text, number) for at, (text, number) in enumerate(keys)]


def between(low, high):
    return ("between", told(Fraction(low)), told(Fraction(high)))


def among(*words):
    return ("among", list(words))


class Reader(unittest.TestCase):
    def check(self, ground, mark, readings, behind=()):
        shapes = ground + [mark] + list(behind)
        self.assertEqual(kept(self, read_back, shapes), [(len(ground), readings)])

    def dot(self, x, y, x_what, y_what, place):
        """A dot at a place along both axes."""
        self.check(frame_of(x, y), ("dot", "left", 10 + place[0], 120 - place[1], 3, 0), [("x", x_what), ("y", y_what)])


class Places(Reader):
    """Point 29: stretches of each scale, of dots."""

    def test_straight(self):
        for place, what in ((0, between(0, 1)), (1, between(1, 3)), (50, between(99, 101)), (99, between(197, 199)), (100, between(199, 200))):
            self.dot(STRAIGHT, STRAIGHT, what, between(99, 101), (place, 50))
            self.dot(STRAIGHT, STRAIGHT, between(0, 1), what, (0, place))

    def test_turns(self):
        for place, what in ((0, between("1/10", "109/1000")), (25, between("541/1000", "559/1000")), (50, between("991/1000", "109/100")),
                            (100, between("991/100", 10)), (75, between("541/100", "559/100"))):
            self.dot(TENS, STRAIGHT, what, between(0, 1), (place, 0))
            self.dot(STRAIGHT, TENS, between(0, 1), what, (0, place))

    def test_broken(self):
        # A stretch ends where its piece does.
        for place, what in ((0, between(0, "1/8")), (20, between("39/8", "41/8")), (40, between("79/8", 10)), (46, between(50, "201/4")),
                            (47, between("201/4", "203/4")), (100, between("307/4", 77))):
            self.dot(BROKEN, STRAIGHT, what, between(0, 1), (place, 0))
            self.dot(STRAIGHT, BROKEN, between(0, 1), what, (0, place))

    def test_days_as_numbers(self):
        for place, what in ((0, between(DAY, DAY + 1)), (1, between(DAY + 1, DAY + 3)), (100, between(DAY + 199, DAY + 200))):
            self.dot(DAYS, STRAIGHT, what, between(0, 1), (place, 0))
            self.dot(STRAIGHT, DAYS, between(0, 1), what, (0, place))
        week = ("days", [(0, show_day(DAY)), (100, show_day(DAY + 7))])
        self.dot(week, STRAIGHT, between(DAY + Fraction(49 * 7, 200), DAY + Fraction(51 * 7, 200)), between(0, 1), (25, 0))

    def test_order(self):
        for place, what in ((17, among("b")), (50, among("a")), (83, among("c")), (16, among()), (0, among())):
            self.dot(ORDER, STRAIGHT, what, between(0, 1), (place, 0))
            self.dot(STRAIGHT, ORDER, between(0, 1), what, (0, place))
        # Words whose places are rounded to one are all told, in their order: of 1/4, 3/4, 5/4 and 7/4 both amid to 1.
        shapes = [("frame", "", 0, 0, 2, 100), ("axis", "x", "order")] + [("tick", "x", 9, word) for word in "dcba"] + frame_of(ORDER, STRAIGHT)[-3:]
        shapes[-3:] = [("axis", "left", "straight"), ("tick", "left", 100, "0"), ("tick", "left", 0, "200"), ("dot", "left", 1, 100, 3, 0)]
        self.assertEqual(read_back(shapes), [(9, [("x", among("c", "b")), ("y", between(0, 1))])])

    def test_of_a_frame_of_one_place(self):
        shapes = [("frame", "", 7, 9, 1, 1), ("axis", "x", "straight"), ("tick", "x", 7, "0"), ("tick", "x", 8, "5"),
                  ("axis", "left", "turns 2"), ("tick", "left", 10, "1"), ("tick", "left", 9, "4"), ("dot", "left", 8, 10, 3, 0)]
        self.assertEqual(read_back(shapes), [(7, [("x", between("5/2", 5)), ("y", between(1, 2))])])


class EachMark(Reader):
    """Point 30."""

    def test_words(self):
        self.check(frame_of(STRAIGHT, ORDER), ("word", "left", 60, 70, "cat", 0), [("x", between(99, 101)), ("y", among("a")), ("other", among("cat"))])

    def test_bars(self):
        for ends, words in (((13, 40), ("b",)), ((47, 73), ("a",)), ((80, 107), ("c",)), ((13, 41), ()), ((12, 40), ()), ((47, 107), ())):
            self.check(frame_of(ORDER, STRAIGHT), ("bar", "left", *ends, 120, 70, 0), [("x", among(*words)), ("y", between(99, 101))])
        self.check(frame_of(ORDER, TENS), ("bar", "left", 13, 40, 120, 20, 0), [("x", among("b")), ("y", between("991/100", 10))])
        self.check(frame_of(ORDER, BROKEN), ("bar", "left", 13, 40, 120, 80, 0), [("x", among("b")), ("y", between("79/8", 10))])

    def test_bars_whose_ends_are_alike(self):
        axis = ("order", [(at, word) for at, word in enumerate("abcdefgh")])
        shapes = [("frame", "", 0, 0, 4, 100), ("axis", "x", "order")] + [("tick", "x", at, word) for at, word in axis[1]]
        shapes += [("axis", "left", "straight"), ("tick", "left", 100, "0"), ("tick", "left", 0, "200")]
        field = (("order", list("abcdefgh"), 4), None, 0, 0, 4, 100)
        for word in "abcdefgh":
            alike = [other for other in "abcdefgh" if bar_ends(field, other) == bar_ends(field, word)]
            self.check(shapes, ("bar", "left", *bar_ends(field, word), 100, 50, 0), [("x", among(*alike)), ("y", between(99, 101))])
        # Each has half a place, from a twentieth to nine twentieths, or from eleven to nineteen of them.
        self.assertEqual([bar_ends(field, word) for word in "abcd"], [(0, 0), (1, 1), (1, 1), (2, 2)])

    def part(self, axis, begin, end, low, high):
        self.check(frame_of(ORDER, axis), ("part", "left", 13, 40, 120 - begin, 120 - end, 0), [("x", among("b")), ("y", between(low, high))])

    def test_parts_at_the_base(self):
        # Of 0 to 1 beneath, and 79 to 81 above.
        self.part(STRAIGHT, 0, 40, 78, 81)
        self.part(STRAIGHT, 0, 0, 0, 1)
        self.part(STRAIGHT, 0, 1, 0, 3)
        # A base amid the scale: beneath may be 0 to 1, not less.
        amid = ("straight", [(0, "-100"), (100, "100")])
        self.part(amid, 50, 60, 18, 21)
        self.part(amid, 50, 50, 0, 1)

    def test_parts_at_a_base_where_nought_has_no_place(self):
        high = ("straight", [(0, "100"), (100, "300")])
        # Nothing, or up to 101, beneath: at the begin 0 itself counts.
        self.part(high, 0, 50, 98, 201)
        self.part(high, 0, 0, 0, 101)
        self.part(TENS, 0, 50, Fraction(991, 1000) - Fraction(109, 1000), Fraction(109, 100))
        gap = ("broken", [(0, "-20"), (40, "-10"), (46, "50"), (100, "77")])
        self.part(gap, 0, 46, 50, Fraction(201, 4))

    def test_parts_above_the_base(self):
        self.part(STRAIGHT, 10, 40, 58, 62)
        self.part(STRAIGHT, 10, 10, 0, 2)
        self.part(STRAIGHT, 99, 100, 0, 3)
        self.part(STRAIGHT, 100, 100, 0, 1)
        self.part(BROKEN, 40, 46, 40, Fraction(201, 4) - Fraction(79, 8))
        self.part(TENS, 50, 100, Fraction(991, 100) - Fraction(109, 100), 10 - Fraction(991, 1000))

    def test_fives(self):
        self.check(frame_of(ORDER, STRAIGHT), ("five", "left", 47, 73, [120, 110, 70, 21, 20], 0),
                   [("x", among("a")), ("y", between(0, 1)), ("y", between(19, 21)), ("y", between(99, 101)), ("y", between(197, 199)),
                    ("y", between(199, 200))])

    def test_paths_and_bands(self):
        self.check(frame_of(DAYS, STRAIGHT), ("path", "left", [(10, 120), (110, 20)], 0),
                   [("x", between(DAY, DAY + 1)), ("y", between(0, 1)), ("x", between(DAY + 199, DAY + 200)), ("y", between(199, 200))])
        self.check(frame_of(TENS, BROKEN), ("band", "left", [(10, 120, 80), (60, 74, 20)], 0),
                   [("x", between("1/10", "109/1000")), ("y", between(0, "1/8")), ("other", between("79/8", 10)),
                    ("x", between("991/1000", "109/100")), ("y", between(50, "201/4")), ("other", between("307/4", 77))])

    def test_sides_and_frames(self):
        one = frame_of(STRAIGHT, STRAIGHT, TENS, (10, 20), "a")
        other = frame_of(STRAIGHT, ORDER, DAYS, (500, -20), "b")
        shapes = one + [("dot", "right", 10, 20, 3, 0), ("dot", "left", 10, 20, 3, 0)]
        shapes += other + [("dot", "left", 500, 30, 3, 0), ("dot", "right", 600, 80, 3, 0)]
        told_back = kept(self, read_back, shapes)
        self.assertEqual(told_back, [(len(one), [("x", between(0, 1)), ("y", between("991/100", 10))]),
                                     (len(one) + 1, [("x", between(0, 1)), ("y", between(199, 200))]),
                                     (len(one) + len(other) + 2, [("x", between(0, 1)), ("y", among("a"))]),
                                     (len(one) + len(other) + 3, [("x", between(199, 200)), ("y", between(DAY, DAY + 1))])])

    def test_without_marks(self):
        self.assertEqual(read_back(frame_of(STRAIGHT, STRAIGHT)), [])


class Looks(Reader):
    GROUND = frame_of(STRAIGHT, STRAIGHT)
    BOTH = [("x", between(0, 1)), ("y", between(0, 1))]
    MARKS = (("dot", "left", 10, 120, 5), ("word", "left", 10, 120, "cat"), ("path", "left", [(10, 120)]), ("band", "left", [(10, 120, 120)]))

    def looks(self, shape, behind):
        """What is told of a shape beyond its places."""
        told_back = read_back(self.GROUND + [shape] + behind)[0][1]
        return [reading for reading in told_back if reading[0] in ("colour", "size")]

    def test_colours_by_order(self):
        keys = legend("colour", "order", *[(word, at % 12) for at, word in enumerate("abcdefghijklmn")])
        for mark in self.MARKS:
            for colour, words in ((0, "am"), (1, "bn"), (2, "c"), (11, "l")):
                self.assertEqual(self.looks(mark + (colour,), keys), [("colour", among(*words))])

    def test_colours_by_straight(self):
        keys = legend("colour", "straight", ("-5", 0), ("250", 255))
        for mark in self.MARKS:
            for colour, what in ((0, between(-5, "-9/2")), (1, between("-9/2", "-7/2")), (254, between("497/2", "499/2")), (255, between("499/2", 250))):
                self.assertEqual(self.looks(mark + (colour,), keys), [("colour", what)])

    def test_sizes_of_dots_alone(self):
        keys = legend("size", "straight", ("0", 2), ("36", 20))
        for size, what in ((2, between(0, 1)), (3, between(1, 3)), (11, between(17, 19)), (20, between(35, 36))):
            self.assertEqual(self.looks(("dot", "left", 10, 120, size, 0), keys), [("size", what)])
        for mark in self.MARKS[1:]:
            self.assertEqual(self.looks(mark + (0,), keys), [])

    def test_both(self):
        keys = legend("colour", "order", ("a", 0)) + legend("size", "straight", ("1/2", 2), ("3", 20))
        self.check(self.GROUND, ("dot", "left", 10, 120, 2, 0), self.BOTH + [("colour", among("a")), ("size", between("1/2", Fraction(1, 2) + Fraction(5, 72)))],
                   keys)

    def test_of_bars_parts_and_fives(self):
        ground = frame_of(ORDER, STRAIGHT)
        keys = legend("colour", "order", ("x", 0), ("y", 1)) + legend("size", "straight", ("1/2", 2), ("3", 20))
        for mark in (("bar", "left", 13, 40, 120, 70, 1), ("part", "left", 13, 40, 120, 70, 1), ("five", "left", 13, 40, [120] * 5, 1)):
            self.assertEqual(read_back(ground + [mark] + keys)[0][1][-1], ("colour", among("y")))
            self.assertEqual(read_back(ground + [mark])[0][1][-1][0], "y")


class Holds(unittest.TestCase):
    """Point 3 (c): the cells of the rows behind lie within what is read."""

    def within(self, what, cell):
        if what[0] == "among":
            self.assertIn(cell, what[1])
        else:
            exact = fraction(cell) if isinstance(cell, tuple) else cell
            self.assertLessEqual(fraction(what[1]), exact)
            self.assertLessEqual(exact, fraction(what[2]))

    def cells(self, plain, mark):
        """The cells that a mark shows, channel by channel, in the order in which it shows them."""
        kind, side, column, other = plain.layers[mark.layer]
        rows = [plain.rows[at] for at in mark.rows]
        first = rows[0]
        found = []
        if kind in ("lines", "bands"):
            order = sorted(range(len(rows)), key=lambda at: (fraction(place_on(mark.scales[0], plain.cell(rows[at], plain.x[0]))), at))
            for at in order:
                found += [("x", plain.cell(rows[at], plain.x[0])), ("y", plain.cell(rows[at], column))]
                found += [("other", plain.cell(rows[at], other))] if kind == "bands" else []
        elif kind == "boxes":
            found = [("x", plain.cell(first, plain.x[0]))] + [("y", one) for one in five_of([plain.cell(row, column) for row in rows])]
        else:
            found = [("x", plain.cell(first, plain.x[0])), ("y", plain.cell(first, column))]
            found += [("other", plain.cell(first, other))] if kind == "words" else []
        found += [("colour", [plain.cell(row, plain.colour[0]) for row in rows])] if plain.colour else []
        found += [("size", plain.cell(first, plain.size[0]))] if plain.size and kind == "dots" else []
        return found

    def check(self, plain, shapes):
        told_back = read_back(shapes)
        self.assertEqual([at for at, _ in told_back], [mark.at for mark in plain.marks])
        for mark, (_, readings) in zip(plain.marks, told_back):
            cells = self.cells(plain, mark)
            self.assertEqual([channel for channel, _ in readings], [channel for channel, _ in cells])
            for (channel, what), (_, cell) in zip(readings, cells):
                for one in cell if isinstance(cell, list) else [cell]:
                    self.within(what, one)
        return len(told_back)

    def each(self, seed, many):
        chance = Chance(seed)
        for turn in range(many):
            whole = chance.telling() if turn % 4 else chance.kinds_telling()
            table = chance.table(chance.pick((3, 9, 30)))
            try:
                Plain(whole, table)
            except (NoSpace, NoPlan):
                continue
            yield chance, whole, table

    def test_of_what_is_drawn(self):
        marks = 0
        for _, whole, table in self.each(30, 400):
            plain = Plain(whole, table)
            try:
                paper = plain.paper(plain.frames(), plain.spots())
            except NoSpace:
                continue
            marks += self.check(plain, paper[0])
        self.assertGreater(marks, 500)

    def test_of_papers_that_anyone_wrote(self):
        marks = 0
        for chance, whole, table in self.each(31, 400):
            others = Others(chance, whole, table)
            marks += self.check(others.plain, others.paper()[0])
        self.assertGreater(marks, 500)


class Tight(unittest.TestCase):
    """A stretch is just half a place to either side."""

    def test_stretches(self):
        chance = random.Random(5)
        for turn in range(300):
            lo = told(chance.randint(-99, 99), chance.randint(1, 9))
            hi = told(fraction(lo) + Fraction(chance.randint(1, 999), 7))
            length = chance.choice((1, 2, 3, 77, 4000))
            at = chance.randint(0, length)
            shapes = [("frame", "", 3, 4, length, 1), ("axis", "x", "straight"), ("tick", "x", 3, f"{fraction(lo)}"), ("tick", "x", 3 + length, f"{fraction(hi)}"),
                      ("axis", "right", "straight"), ("tick", "right", 5, "0"), ("tick", "right", 4, "1"), ("dot", "right", 3 + at, 4, 3, 0)]
            what = read_back(shapes)[0][1][0][1]
            scale = ("straight", lo, hi, length)
            half = Fraction(1, 2)
            self.assertEqual(fraction(place_on(scale, what[1])), max(Fraction(0), at - half))
            self.assertEqual(fraction(place_on(scale, what[2])), min(Fraction(length), at + half))

    def test_the_base_of_a_field_is_where_bars_stand(self):
        self.assertEqual(base_on(("straight", (-1, 1), (3, 1), 100)), (25, 1))


class NotApart(unittest.TestCase):
    """Point 31."""

    def check(self, shapes, lists):
        self.assertEqual(kept(self, not_apart, shapes), lists)

    def test_of_none(self):
        ground = frame_of(STRAIGHT, STRAIGHT)
        self.check(ground, [])
        self.check(ground + [("dot", "left", 10, 20, 3, 0)], [])
        near = [("dot", "left", 10, 20, 3, 0), ("dot", "right", 10, 20, 3, 0), ("dot", "left", 11, 20, 3, 0), ("dot", "left", 10, 21, 3, 0),
                ("dot", "left", 10, 20, 4, 0), ("dot", "left", 10, 20, 3, 1), ("word", "left", 10, 20, "a", 0), ("word", "left", 10, 20, "b", 0)]
        self.check(ground + near, [])

    def test_of_two_and_more(self):
        ground = frame_of(STRAIGHT, STRAIGHT)
        a, b, c = ("dot", "left", 10, 20, 3, 0), ("path", "left", [(10, 20), (11, 20)], 0), ("five", "left", 1, 2, [5, 4, 3, 2, 1], 0)
        at = len(ground)
        self.check(ground + [a, a], [[at, at + 1]])
        self.check(ground + [a, b, copy.deepcopy(b), a, c, a], [[at, at + 3, at + 5], [at + 1, at + 2]])
        self.check(ground + [b, a, c, copy.deepcopy(c), a, copy.deepcopy(b)], [[at, at + 5], [at + 1, at + 4], [at + 2, at + 3]])
        self.check(ground + [("path", "left", [(10, 20)], 0), ("path", "left", [(10, 21)], 0)], [])
        band = ("band", "left", [(10, 20, 30)], 0)
        self.check(ground + [band, ("band", "left", [(10, 20, 31)], 0), ("band", "left", [(10, 20, 30)], 0)], [[at, at + 2]])

    def test_in_unlike_frames(self):
        # Frames may lie in one place; marks alike stand in one frame, or can be told apart.
        dot = ("dot", "left", 10, 20, 3, 0)
        one, other = frame_of(STRAIGHT, STRAIGHT, title="a"), frame_of(STRAIGHT, STRAIGHT, title="b")
        self.check(one + [dot] + other + [dot], [])
        at = len(one)
        self.check(one + [dot, dot] + other + [dot, dot, dot], [[at, at + 1], [2 * at + 2, 2 * at + 3, 2 * at + 4]])

    def test_shapes_that_are_no_marks(self):
        keys = legend("colour", "order", ("a", 0)) + [("key", "colour", 5, 8, "a", 0)]
        self.check(frame_of(STRAIGHT, STRAIGHT) + [("tick", "left", 20, "200")] + keys, [])


class OwnThings(unittest.TestCase):
    def test_what_is_told_is_the_askers_own(self):
        shapes = frame_of(ORDER, ORDER) + [("word", "left", 27, 103, "cat", 0), ("word", "left", 27, 103, "cat", 0)] + legend("colour", "order", ("a", 0))
        for call in (read_back, not_apart):
            first, again = call(shapes), call(shapes)
            before = copy.deepcopy(again)
            self.assertNotEqual(before, [])
            emptied(first)
            self.assertEqual(again, before)
            given = copy.deepcopy(shapes)
            third = call(given)
            emptied(given)
            self.assertEqual(third, before)


if __name__ == "__main__":
    unittest.main()
