"""Points 2, 23, 26 and 27: drawings, the rows behind shapes, and rows that are lost."""

import copy
import unittest

from chance import Chance
from fieldwork import emptied
from markscale.drawing import drawn
from markscale.errors import NoPlan, NoSpace, NoTable, NoTelling
from markscale.tellingtexts import read_telling
from plaindraw import plain_drawn
from sheets import Sheets, is_ground, marks_of, shapes_of, table_of
from tell import BROKEN, ORDER, PARTS, STRAIGHT, telling
from things import kept, things, words_many

TOWNS = "n number, m number, w word, v word"


class Colours(Sheets):
    """Point 23, as it is seen in a drawing."""

    def looks(self, telling, table):
        """The tuples (rows, colour) of the dots, and the keys' texts and numbers."""
        paper = self.drawn(telling, table)
        return ([(rows, shape[5]) for _, shape, rows in marks_of(paper)], [key[4:] for key in shapes_of(paper, "key")])

    def test_by_first_coming_and_by_order_told(self):
        table = f"{TOWNS} | 1, 1, c, x | 2, 1, a, x | 3, 1, c, x | 4, 1, b, x | 5, 1, -, x"
        head = "x n straight; left straight; mark dots left n; colour w order"
        self.assertEqual(self.looks(f"{head}; sheet 300 200", table), ([([0], 0), ([1], 1), ([2], 0), ([3], 2)], [("c", 0), ("a", 1), ("b", 2)]))
        self.assertEqual(self.looks(f"{head} b z a; sheet 300 200", table), ([([1], 2), ([3], 0)], [("b", 0), ("z", 1), ("a", 2)]))

    def test_of_the_rows_in_facets(self):
        table = f"{TOWNS} | 1, 1, c, - | 2, 1, a, x | 3, 1, c, y | 4, 1, b, x"
        head = "x n straight; left straight; mark dots left n; colour w order; facet v order x; sheet 300 200"
        self.assertEqual(self.looks(head, table), ([([1], 0), ([3], 1)], [("a", 0), ("b", 1)]))

    def test_a_rank_of_twelve_and_more(self):
        words = words_many(26)
        rows = [((at, 1), word) for at, word in enumerate(words)]
        looks = self.looks("x n straight; left straight; mark dots left n; colour w order; sheet 300 400", ([("n", "number"), ("w", "word")], rows))
        colours = list(range(12)) + list(range(12)) + [0, 1]
        self.assertEqual(looks, ([([at], colour) for at, colour in enumerate(colours)], list(zip(words, colours))))
        # Lines of one colour and unlike ranks stay apart, in the order of ranks.
        paper = self.drawn("x n straight; left straight; mark lines left n; colour w order; sheet 300 400", ([("n", "number"), ("w", "word")], rows))
        self.assertEqual([(shape[3], rows) for _, shape, rows in marks_of(paper)], [(colour, [at]) for at, colour in enumerate(colours)])

    def test_straight(self):
        table = f"{TOWNS} | 0, 1, a, x | 1, 1, a, x | 2, 1, a, x | 9, 1, a, y | -, 1, a, x"
        head = "x m straight; left straight; mark dots left m; colour n straight"
        self.assertEqual(self.looks(f"{head}; sheet 300 200", table), ([([0], 0), ([1], 28), ([2], 57), ([3], 255)], [("0", 0), ("9", 255)]))
        self.assertEqual(self.looks(f"{head} 1/2 2; sheet 300 200", table), ([([1], 85), ([2], 255)], [("1/2", 0), ("2", 255)]))
        # Of the cells of the rows in facets: 127.5 is rounded up.
        self.assertEqual(self.looks(f"{head}; facet v order x; sheet 300 200", table), ([([0], 0), ([1], 128), ([2], 255)], [("0", 0), ("2", 255)]))

    def test_straight_of_none_and_of_alike_ones(self):
        head = "x m straight; left straight; mark dots left m; colour n straight; sheet 300 200"
        self.assertEqual(self.looks(head, TOWNS), ([], [("0", 0), ("1", 255)]))
        self.assertEqual(self.looks(head, f"{TOWNS} | -, 1, a, x"), ([], [("0", 0), ("1", 255)]))
        self.assertEqual(self.looks(head, f"{TOWNS} | 5/2, 1, a, x | 5/2, 2, a, x"), ([([0], 0), ([1], 0)], [("5/2", 0), ("7/2", 255)]))

    def test_without(self):
        paper = self.drawn("x n straight; left straight; mark dots left n; mark lines left n; sheet 300 200", f"{TOWNS} | 0, 1, a, x | 1, 1, a, x")
        self.assertEqual([shape[4:] for shape in shapes_of(paper, "dot")], [(3, 0), (3, 0)])
        self.assertEqual([shape[3] for shape in shapes_of(paper, "path")], [0])
        self.assertEqual(shapes_of(paper, "legend") + shapes_of(paper, "key"), [])

    def test_words_of_colour_that_are_none_or_too_many(self):
        head = "x n straight; left straight; mark dots left n; colour w order"
        self.no_space(f"{head}; sheet 300 900", TOWNS)
        self.no_space(f"{head}; sheet 300 900", f"{TOWNS} | 1, 1, -, x")
        self.no_space(f"{head}; facet v order x; sheet 300 900", f"{TOWNS} | 1, 1, a, y")
        self.drawn(f"{head} a; facet v order x; sheet 300 900", f"{TOWNS} | 1, 1, a, y")


class Sizes(Sheets):
    def sizes(self, telling, table):
        paper = self.drawn(telling, table)
        return ([(rows, shape[4]) for _, shape, rows in marks_of(paper)], [key[4:] for key in shapes_of(paper, "key")])

    def test_straight(self):
        table = f"{TOWNS} | 0, 1, a, x | 1, 1, a, x | 2, 1, a, x | 12, 1, a, y | -, 1, a, x"
        head = "x m straight; left straight; mark dots left m; size n straight"
        # Of 18: 0, 1.5, 3, 18.
        self.assertEqual(self.sizes(f"{head}; sheet 300 200", table), ([([0], 2), ([1], 4), ([2], 5), ([3], 20)], [("0", 2), ("12", 20)]))
        self.assertEqual(self.sizes(f"{head} 1/2 2; sheet 300 200", table), ([([1], 8), ([2], 20)], [("1/2", 2), ("2", 20)]))
        self.assertEqual(self.sizes(f"{head}; facet v order x; sheet 300 200", table), ([([0], 2), ([1], 11), ([2], 20)], [("0", 2), ("2", 20)]))

    def test_of_none_and_of_alike_ones(self):
        head = "x m straight; left straight; mark dots left m; size n straight; sheet 300 200"
        self.assertEqual(self.sizes(head, TOWNS), ([], [("0", 2), ("1", 20)]))
        self.assertEqual(self.sizes(head, f"{TOWNS} | -7, 1, a, x | -7, 2, a, x"), ([([0], 2), ([1], 2)], [("-7", 2), ("-6", 20)]))


class Shapes(Sheets):
    """Point 26."""

    def test_a_whole_drawing(self):
        table = f"{TOWNS} | 0, 1, a, x | 10, 2, b, x | 5, 3, a, y"
        head = ("x w order; left straight 0 10; right turns 10; mark bars left n; mark dots right m; "
                "colour w order; size n straight; facet v order; sheet 400 90")
        paper = self.drawn(head, table)
        # A legend of 36 places leaves 364, so each facet has 182 by 90, and its frame 118 by 60.
        frame = [("frame", "x", 32, 14, 118, 60), ("axis", "x", "order"), ("tick", "x", 62, "a"), ("tick", "x", 121, "b"),
                 ("axis", "left", "straight"), ("tick", "left", 74, "0"), ("tick", "left", 14, "10"),
                 ("axis", "right", "turns 10"), ("tick", "right", 74, "1"), ("tick", "right", 14, "10")]
        marks = [("bar", "left", 38, 85, 74, 74, 0), ("bar", "left", 97, 144, 74, 14, 1),
                 ("dot", "right", 62, 74, 2, 0), ("dot", "right", 121, 67, 20, 1)]
        other = [("frame", "y", 214, 14, 118, 60), ("axis", "x", "order"), ("tick", "x", 244, "a"), ("tick", "x", 303, "b"),
                 ("axis", "left", "straight"), ("tick", "left", 74, "0"), ("tick", "left", 14, "10"),
                 ("axis", "right", "turns 10"), ("tick", "right", 74, "1"), ("tick", "right", 14, "10"),
                 ("bar", "left", 220, 267, 74, 44, 0), ("dot", "right", 244, 61, 11, 0)]
        legend = [("legend", "colour", "order"), ("key", "colour", 372, 8, "a", 0), ("key", "colour", 372, 20, "b", 1),
                  ("legend", "size", "straight"), ("key", "size", 372, 32, "0", 2), ("key", "size", 372, 44, "10", 20)]
        self.assertEqual(paper[0], frame + marks + other + legend)
        self.assertEqual(paper[1], [[]] * 10 + [[0], [1], [0], [1]] + [[]] * 10 + [[2], [2]] + [[]] * 6)
        self.assertEqual(paper[2], [])

    def test_legends_of_scales(self):
        head = "x n straight 0 9; left straight 0 9; mark dots left n; colour n straight -1/3 9; size m straight; sheet 300 200"
        paper = self.drawn(head, f"{TOWNS} | 1, 1, a, x | 2, 3, a, x")
        self.assertEqual(paper[0][-6:], [("legend", "colour", "straight"), ("key", "colour", 260, 8, "-1/3", 0), ("key", "colour", 260, 20, "9", 255),
                                         ("legend", "size", "straight"), ("key", "size", 260, 32, "1", 2), ("key", "size", 260, 44, "3", 20)])

    def test_a_legend_of_size_alone(self):
        paper = self.drawn("x n straight 0 9; left straight 0 9; mark dots left n; size m straight; sheet 300 200", f"{TOWNS} | 1, 1, a, x")
        self.assertEqual(paper[0][-3:], [("legend", "size", "straight"), ("key", "size", 278, 8, "1", 2), ("key", "size", 278, 20, "2", 20)])

    def test_axis_words(self):
        table = "n number, d day, w word | 1, 2024-01-01, a | 2, 2024-01-02, b"
        for column, wish, word in (("n", "straight", "straight"), ("n", "straight 0 5", "straight"), ("n", "turns 2", "turns 2"),
                                   ("n", "turns 10", "turns 10"), ("n", "broken 0 3 5 9", "broken"), ("d", "days", "days"),
                                   ("w", "order", "order"), ("w", "order b a", "order")):
            paper = self.drawn(f"x {column} {wish}; left {wish}; mark dots left {column}; sheet 900 300", table)
            self.assertEqual(shapes_of(paper, "axis"), [("axis", "x", word), ("axis", "left", word)])
            paper = self.drawn(f"x {column} {wish}; right {wish}; mark dots right {column}; sheet 900 300", table)
            self.assertEqual(shapes_of(paper, "axis"), [("axis", "x", word), ("axis", "right", word)])

    def test_layers_by_their_order_whatever_their_sides(self):
        table = f"{TOWNS} | 1, 1, a, x | 2, 2, b, y"
        head = "x n straight; left straight; right straight; mark dots right n; mark lines left m; mark words right m w; sheet 400 200"
        self.assertEqual([shape[:2] for _, shape, _ in marks_of(self.drawn(head, table))],
                         [("dot", "right")] * 2 + [("path", "left")] + [("word", "right")] * 2)

    def test_a_table_without_rows(self):
        paper = self.drawn("x n straight 0 9; left straight 0 9; mark dots left n; sheet 300 200", TOWNS)
        self.assertEqual(paper, ([("frame", "", 32, 4, 236, 180), ("axis", "x", "straight"), ("tick", "x", 32, "0"), ("tick", "x", 268, "9"),
                                  ("axis", "left", "straight"), ("tick", "left", 184, "0"), ("tick", "left", 4, "9")], [[]] * 7, []))


class Behind(Sheets):
    """Point 27."""

    def test_rising_numbers_of_the_tables_rows(self):
        table = f"{TOWNS} | 5, 1, b, x | 1, 1, a, x | 3, 1, b, x | -, 1, a, x | 2, 1, a, y"
        paper = self.drawn("x n straight; left straight; mark lines left n; colour w order; sheet 300 200", table)
        self.assertEqual([rows for _, _, rows in marks_of(paper)], [[0, 2], [1, 4]])
        self.assertEqual(len(paper[0]), len(paper[1]))
        self.assertTrue(all(rows == [] for shape, rows in zip(*paper[:2]) if is_ground(shape)))

    def test_behind_kinds_and_sieves(self):
        table = f"{TOWNS} | 5, 1, b, x | 1, 1, a, x | 3, 1, b, y | 9, 1, c, y | 2, 1, a, y | 4, 1, -, x"
        head = "sieve under n 9; kinds w : s sum n k count n; sieve under s 6; x w order; left straight; mark dots left s; sheet 300 200"
        paper = self.drawn(head, table)
        self.assertEqual([rows for _, _, rows in marks_of(paper)], [[1, 4]])
        self.assertEqual(paper[2], [(0, 0, "sieve", 2), (2, 0, "sieve", 2), (3, 0, "sieve", 0), (5, 0, "x", "nothing")])
        # Planned rows that one mark shows are behind it with all that they are of.
        head = "kinds w v : s sum n; x v order; left straight; mark boxes left s; sheet 300 200"
        self.assertEqual([rows for _, _, rows in marks_of(self.drawn(head, table))], [[0, 1, 5], [2, 3, 4]])

    def test_lost_by_number_then_layer(self):
        table = f"{TOWNS} | -, 1, a, x | 1, -, a, x | 1, 1, a, - | 1, 1, b, x"
        head = "sieve not same w b; x n straight; left straight; right straight; mark dots left m; mark lines right n; mark words left n v; sheet 300 200"
        paper = self.drawn(head, table)
        self.assertEqual(paper[2], [(0, 0, "x", "nothing"), (0, 1, "x", "nothing"), (0, 2, "x", "nothing"), (1, 0, "y", "nothing"),
                                    (2, 2, "other", "nothing"), (3, 0, "sieve", 0), (3, 1, "sieve", 0), (3, 2, "sieve", 0)])

    def check_lost(self, head, columns, row, *loss):
        self.assertEqual(self.drawn(head, f"{columns} | {row}")[2], [(0, 0) + loss] if loss else [])

    def test_channels_in_their_order(self):
        columns = "f word, c word, s number, x number, y number, o word"
        head = ("sieve there f; bins s t 0 1; sieve there t; x x straight 0 9; left straight 0 9; mark words left y o; colour c order a; "
                "size s straight 0 9; facet f order a; sheet 300 200")
        good = ["a", "a", "1", "1", "1", "a"]
        self.check_lost(head, columns, ", ".join(good))
        bads = (("b", "facet", "unknown"), ("b", "colour", "unknown"), ("10", "size", "outside"), ("10", "x", "outside"), ("-1", "y", "outside"),
                ("-", "other", "nothing"))
        for at, bad in enumerate(bads):
            row = good[:at] + [bad[0]] + good[at + 1:]
            self.check_lost(head, columns, ", ".join(row), *bad[1:])
            # Whatever else has no place behind it, the first channel is told.
            row = good[:at] + [other[0] for other in bads[at:]]
            self.check_lost(head, columns, ", ".join(row), *bad[1:])
        self.check_lost(head, columns, "-, b, -, 10, 10, -", "sieve", 0)
        self.check_lost(head, columns, "b, b, -, 10, 10, -", "sieve", 2)

    def test_each_reason(self):
        columns = "f word, c word, n number, m number, d day, w word | a, a, 1, 1, 2024-01-01, a"
        rest = "; sheet 600 200"

        def lost(head, row):
            return self.drawn(head + rest, f"{columns} | {row}")[2]

        dots = "x w order; left straight; mark dots left m"
        for word, reason in (("-", "nothing"), ("b", "unknown")):
            self.assertEqual(lost(f"{dots}; facet f order a", f"{word}, a, 1, 1, -, a"), [(1, 0, "facet", reason)])
            self.assertEqual(lost(f"{dots}; colour c order a", f"a, {word}, 1, 1, -, a"), [(1, 0, "colour", reason)])
            self.assertEqual(lost("x w order a; left straight; mark dots left m", f"a, a, 1, 1, -, {word}"), [(1, 0, "x", reason)])
            self.assertEqual(lost("x m straight; left order a; mark dots left w", f"a, a, 1, 1, -, {word}"), [(1, 0, "y", reason)])
        for cell, reason in (("-", "nothing"), ("-1", "outside"), ("6", "outside")):
            self.assertEqual(lost(f"{dots}; colour n straight 0 5", f"a, a, {cell}, 1, -, a"), [(1, 0, "colour", reason)])
            self.assertEqual(lost(f"{dots}; size n straight 0 5", f"a, a, {cell}, 1, -, a"), [(1, 0, "size", reason)])
            self.assertEqual(lost("x n straight 0 5; left straight; mark dots left m", f"a, a, {cell}, 1, -, a"), [(1, 0, "x", reason)])
            self.assertEqual(lost("x w order; left straight 0 5; mark bars left n", f"a, a, {cell}, 1, -, a"), [(1, 0, "y", reason)])
            self.assertEqual(lost("x m straight; left straight 0 5; mark bands left m n", f"a, a, {cell}, 1, -, a"), [(1, 0, "other", reason)])
        for cell, reason in (("-", "nothing"), ("0", "nought"), ("-3", "nought")):
            self.assertEqual(lost("x n turns 10; left straight; mark dots left m", f"a, a, {cell}, 1, -, a"), [(1, 0, "x", reason)])
            self.assertEqual(lost("x w order; left turns 2; mark boxes left n", f"a, a, {cell}, 1, -, a"), [(1, 0, "y", reason)])
        for cell, reason in (("-", "nothing"), ("5", "gap"), ("-3", "outside"), ("11", "outside")):
            self.assertEqual(lost("x n broken 0 4 6 9; left straight; mark dots left m", f"a, a, {cell}, 1, -, a"), [(1, 0, "x", reason)])
            self.assertEqual(lost("x m straight; left broken 0 4 6 9; mark lines left n", f"a, a, {cell}, 1, -, a"), [(1, 0, "y", reason)])
        self.assertEqual(lost("x d days; left straight; mark dots left m", "a, a, 1, 1, -, a"), [(1, 0, "x", "nothing")])
        self.assertEqual(lost("x w order; left straight; mark heaps left n; colour c order", "a, a, -1, 1, -, a"), [(1, 0, "y", "below")])
        self.assertEqual(lost("x w order; left straight 0 1; mark heaps left n; colour c order", "a, a, 1, 1, -, a"), [(1, 0, "y", "outside")])

    def test_rows_lost_ahead_are_no_items(self):
        # Without a colour or a size a row is in no heap, box or line either, though no such mark has a size.
        table = "n number, m number, w word, v word | 1, 1, a, x | 2, -, a, x | 4, 1, a, - | 8, 1, a, y"
        head = "x w order; left straight 0 20; mark heaps left n; colour v order; size m straight; sheet 300 200"
        paper = self.drawn(head, table)
        self.assertEqual([(shape[4:], rows) for _, shape, rows in marks_of(paper)], [((184, 175, 0), [0]), ((175, 103, 1), [3])])
        self.assertEqual(paper[2], [(1, 0, "size", "nothing"), (2, 0, "colour", "nothing")])


class Refusals(unittest.TestCase):
    """The order in which a drawing is refused."""

    GOOD = telling(x=("n", STRAIGHT), layers=(("dots", "left", "n", None),))
    TABLE = table_of("n number, w word | 1, a")

    def refused(self, error, field, telling, table):
        with self.assertRaises(error) as caught:
            drawn(telling, table)
        if field is not None:
            self.assertEqual((getattr(caught.exception, field[0]), type(caught.exception)), (field[1], error))

    def changed(self, **parts):
        whole = dict(zip(PARTS, self.GOOD))
        whole.update(parts)
        return tuple(whole[part] for part in PARTS)

    def test_in_their_order(self):
        no_table = (self.TABLE[0], self.TABLE[1] + [(1, 2)])
        small, no_plan = (60, 60, False), [("sieve", ("there", "z"))]
        no_columns = {"x": ("z", STRAIGHT), "colour": ("z", ORDER)}
        everything = self.changed(size=3, steps=no_plan, sheet=small, **no_columns)
        before = copy.deepcopy((everything, no_table, no_plan, self.TABLE))
        self.refused(NoTable, ("row", 1), everything, no_table)
        self.refused(NoTable, ("row", 1), self.GOOD, no_table)
        self.refused(NoTable, ("row", None), None, None)
        self.refused(NoTelling, ("part", "size"), everything, self.TABLE)
        self.refused(NoTelling, ("part", None), None, self.TABLE)
        self.refused(NoTelling, ("part", "sheet"), self.changed(steps=no_plan, sheet=None), self.TABLE)
        self.refused(NoPlan, ("step", 0), self.changed(steps=no_plan, sheet=small, **no_columns), self.TABLE)
        self.refused(NoPlan, ("step", 1), self.changed(steps=[("sieve", ("there", "n")), 7], sheet=small), self.TABLE)
        self.refused(NoTelling, ("part", "x"), self.changed(sheet=small, **no_columns), self.TABLE)
        self.refused(NoTelling, ("part", "colour"), self.changed(sheet=small, colour=("z", ORDER)), self.TABLE)
        self.refused(NoTelling, ("part", "colour"), self.changed(sheet=small, colour=("n", ORDER), facet=("n", ORDER)), self.TABLE)
        self.refused(NoTelling, ("part", "layers"), self.changed(layers=(("dots", "left", "w", None),), size=("w", STRAIGHT)), self.TABLE)
        self.refused(NoTelling, ("part", "facet"), self.changed(facet=("n", ORDER)), self.TABLE)
        self.refused(NoSpace, None, self.changed(sheet=small), self.TABLE)
        self.assertEqual((everything, no_table, no_plan, self.TABLE), before)

    def test_columns_are_those_behind_the_plan(self):
        kinds = [("kinds", ["w"], [("s", "sum", "n")])]
        self.refused(NoTelling, ("part", "x"), self.changed(steps=kinds), self.TABLE)
        drawn(self.changed(steps=kinds, x=("s", STRAIGHT), layers=(("dots", "left", "s", None),)), self.TABLE)

    def test_anything(self):
        for thing in things():
            self.refused(NoTable, None, self.GOOD, thing)
            self.refused(NoTelling, ("part", None), thing, self.TABLE)
            self.refused(NoPlan, ("step", 0), self.changed(steps=[thing]), self.TABLE)


class Whole(unittest.TestCase):
    def each(self, seed, many):
        chance = Chance(seed)
        for turn in range(many):
            whole = chance.telling() if turn % 4 else chance.kinds_telling()
            yield whole, chance.table(chance.pick((3, 9, 30, 60)))

    def test_by_plain_reading(self):
        found = {"drawn": 0, "space": 0}
        for whole, table in self.each(27, 500):
            try:
                paper = kept(self, drawn, whole, table)
            except NoSpace:
                with self.assertRaises(NoSpace):
                    plain_drawn(whole, table)
                found["space"] += 1
                continue
            except (NoPlan, NoTelling):
                continue
            self.assertEqual(paper, plain_drawn(whole, table))
            found["drawn"] += 1
        self.assertGreater(found["drawn"], 250)
        self.assertGreater(found["space"], 50)

    def test_each_row_and_layer_once(self):
        for whole, table in self.each(28, 200):
            try:
                shapes, behind, lost = drawn(whole, table)
            except (NoSpace, NoPlan):
                continue
            self.assertEqual(len(shapes), len(behind))
            self.assertEqual([loss[:2] for loss in lost], sorted({loss[:2] for loss in lost}))
            seen = [loss[:2] for loss in lost]
            heads = {"dot": "dots", "bar": "bars", "part": "heaps", "path": "lines", "band": "bands", "five": "boxes", "word": "words"}
            if len({layer[:2] for layer in whole[3]}) < len(whole[3]):
                continue
            for shape, rows in zip(shapes, behind):
                self.assertEqual(rows, sorted(set(rows)))
                if not is_ground(shape):
                    layer = [other[:2] for other in whole[3]].index((heads[shape[0]], shape[1]))
                    seen += [(row, layer) for row in rows]
            self.assertEqual(sorted(seen), [(row, layer) for row in range(len(table[1])) for layer in range(len(whole[3]))])

    def test_what_is_told_is_the_askers_own(self):
        table = table_of(f"{TOWNS} | 0, 1, a, x | 10, 2, b, x | 5, -, a, x")
        for text in ("x w order; left straight 0 20; right broken 0 20 30 90; mark boxes left n; mark dots right m; colour w order; sheet 300 200",
                     "kinds w v : n greatest n; sieve there w; x n straight; left straight; mark lines left n; mark dots left n; sheet 300 200"):
            whole = read_telling(text)
            first = drawn(whole, table)
            again = drawn(whole, table)
            before = copy.deepcopy(again)
            emptied(first)
            self.assertEqual(again, before)
            self.assertEqual(drawn(whole, table), before)
            given = copy.deepcopy((whole, table))
            third = drawn(*given)
            emptied(given)
            self.assertEqual(third, before)

    def test_no_two_lists_are_one(self):
        table = table_of(f"{TOWNS} | 0, 1, a, x | 10, 2, b, x")
        paper = drawn(read_telling("x n straight; left straight; mark lines left n; mark lines left n; mark dots left n; sheet 300 200"), table)
        lists = list(paper[1]) + [shape[2] for shape in shapes_of(paper, "path")]
        self.assertEqual(len({id(one) for one in lists}), len(lists))

    def test_broken_wishes_stay(self):
        whole = telling(x=("n", BROKEN), sides=(BROKEN, None), layers=(("dots", "left", "n", None),))
        kept(self, drawn, whole, table_of(f"{TOWNS} | 0, 1, a, x"))


if __name__ == "__main__":
    unittest.main()
