"""Points 24 and 25: the room of legends, where frames lie, and the axes about them."""

import unittest

from markscale.axes import axis_for
from markscale.days import show_day
from sheets import Sheets, labels_at, shapes_of
from things import told, words_many

ONE = "n number, w word | 1, a | 2, b"
MARKS = "x n straight; left straight 0 9; mark dots left n"
TOWNS = "n number, w word, v word"


def facets_table(many):
    rows = [((at, 1), word) for at, word in enumerate(words_many(many))]
    return ([("n", "number"), ("w", "word")], rows)


def ticks_at(wish, cells, length, way, nought=False):
    return [text for _, text in axis_for(wish, cells, length, way, nought)[1]]


class Rooms(Sheets):
    def frames(self, telling, table):
        return [shape[2:] for shape in shapes_of(self.drawn(telling, table), "frame")]

    def test_without_facet_and_legend(self):
        self.assertEqual(self.frames(f"{MARKS}; sheet 300 200", ONE), [(32, 4, 236, 180)])
        self.assertEqual(self.frames("x n straight; right straight 0 9; mark dots right n; sheet 300 200", ONE), [(32, 4, 236, 180)])

    def test_a_facet_has_a_title_above(self):
        self.assertEqual(self.frames(f"{MARKS}; facet w order a; sheet 300 200", ONE), [(32, 14, 236, 170)])
        paper = self.drawn(f"{MARKS}; facet w order a b; sheet 600 200", ONE)
        self.assertEqual(shapes_of(paper, "frame"), [("frame", "a", 32, 14, 236, 170), ("frame", "b", 332, 14, 236, 170)])
        self.assertEqual(shapes_of(self.drawn(f"{MARKS}; sheet 600 200", ONE), "frame"), [("frame", "", 32, 4, 536, 180)])

    def test_one_to_twelve_facets(self):
        beside = {1: 1, 2: 2, 3: 2, 4: 2, 5: 3, 6: 3, 7: 3, 8: 3, 9: 3, 10: 4, 11: 4, 12: 4}
        down = {1: 1, 2: 1, 3: 2, 4: 2, 5: 2, 6: 2, 7: 3, 8: 3, 9: 3, 10: 3, 11: 3, 12: 3}
        for many in range(1, 13):
            wide, high = 1201 // beside[many], 601 // down[many]
            paper = self.drawn(f"{MARKS}; facet w order; sheet 1201 601", facets_table(many))
            for at, shape in enumerate(shapes_of(paper, "frame")):
                x, y = wide * (at % beside[many]) + 32, high * (at // beside[many]) + 14
                self.assertEqual(shape, ("frame", words_many(many)[at], x, y, wide - 64, high - 30))
            self.assertEqual(len(shapes_of(paper, "frame")), many)
        self.no_space(f"{MARKS}; facet w order; sheet 2000 2000", facets_table(13))

    def test_height_of_24_and_beneath(self):
        self.assertEqual(self.frames(f"{MARKS}; sheet 300 60", ONE)[0][3], 40)
        self.assertEqual(self.frames(f"{MARKS}; facet w order a; sheet 300 60", ONE)[0][3], 30)
        for many, down in ((3, 2), (6, 2), (7, 3), (12, 3)):
            for more in range(down):
                frames = self.frames(f"{MARKS}; facet w order; sheet 2000 {54 * down + more}", facets_table(many))
                self.assertEqual({frame[3] for frame in frames}, {24})
            self.no_space(f"{MARKS}; facet w order; sheet 2000 {54 * down - 1}", facets_table(many))

    def test_width_of_24_and_beneath(self):
        ends = "x n straight 0 1; left straight 0 9; mark dots left n"
        self.assertEqual(self.frames(f"{ends}; sheet 88 200", ONE), [(32, 4, 24, 180)])
        self.no_space(f"{ends}; sheet 87 200", ONE)
        self.assertEqual(self.frames(f"{ends}; facet w order; sheet 176 200", ONE), [(32, 14, 24, 170), (120, 14, 24, 170)])
        self.assertEqual(self.frames(f"{ends}; facet w order; sheet 177 200", ONE), [(32, 14, 24, 170), (120, 14, 24, 170)])
        self.no_space(f"{ends}; facet w order; sheet 175 200", ONE)
        # A legend that is wider than the sheet leaves nothing.
        self.no_space(f"{ends}; colour n straight -123456789012345678 1; sheet 60 200", ONE)

    def test_room_by_the_longest_label(self):
        for hi, room in (("9", 32), ("9999", 32), ("10001", 38), ("123456", 44), ("123456789012345678", 116)):
            left = f"x n straight 0 1; left straight 0 {hi}; mark dots left n; sheet 400 200"
            right = f"x n straight 0 1; right straight 0 {hi}; mark dots right n; sheet 400 200"
            self.assertEqual(self.frames(left, ONE), [(room, 4, 368 - room, 180)])
            self.assertEqual(self.frames(right, ONE), [(32, 4, 368 - room, 180)])
        both = "x n straight 0 1; left straight -12345 0; right straight 1/2 1234567; mark dots left n; mark dots right n; sheet 400 200"
        self.assertEqual(self.frames(both, ONE), [(44, 4, 400 - 44 - 50, 180)])

    def test_room_by_the_longest_label_in_all_facets(self):
        table = f"{TOWNS} | 1, a, a | 2, a, a | 1234560, b, b | 1234567, b, b"
        own = self.drawn(f"x v order; left straight; mark dots left n; facet w order; sheet 600 200 own", table)
        self.assertEqual(max(len(label) for label in labels_at(own, "left", 0)), 5)
        self.assertEqual(max(len(label) for label in labels_at(own, "left", 1)), 9)
        self.assertEqual([shape[2] for shape in shapes_of(own, "frame")], [62, 362])

    def test_room_of_words_and_days(self):
        table = "n number, w word, d day | 1, abcdefgh, 2024-01-01 | 2, b, 2024-01-02"
        self.assertEqual(self.frames("x n straight; left order; mark dots left w; sheet 300 200", table), [(56, 4, 212, 180)])
        self.assertEqual(self.frames("x n straight; left days; mark dots left d; sheet 300 200", table), [(68, 4, 200, 180)])


class Legends(Sheets):
    def frame(self, telling, table=ONE):
        return shapes_of(self.drawn(telling, table), "frame")[0]

    def test_the_room_at_the_longest_text(self):
        for colour, room in (("w order", 30), ("w order a", 30), ("w order a bb", 36), ("w order abcdefgh a", 72),
                             ("n straight", 30), ("n straight 0 100", 42), ("n straight -1/2 9", 48)):
            self.assertEqual(self.frame(f"{MARKS}; colour {colour}; sheet 400 200")[4], 336 - room)
        self.assertEqual(self.frame(f"{MARKS}; size n straight -5/2 9; sheet 400 200")[4], 336 - 48)
        self.assertEqual(self.frame(f"{MARKS}; colour w order abc; size n straight -5/2 9; sheet 400 200")[4], 336 - 48)
        self.assertEqual(self.frame(f"{MARKS}; colour w order abcdef; size n straight -5/2 9; sheet 400 200")[4], 336 - 60)
        self.assertEqual(self.frame(f"{MARKS}; sheet 400 200")[4], 336)

    def test_heights_at_which_the_keys_just_have_room(self):
        words = words_many(60)
        for many in (4, 5, 12, 13, 60):
            told_words = " ".join(words[:many])
            for size, keys in (("", many), ("; size n straight", many + 2)):
                height = 12 * keys + 16
                self.frame(f"{MARKS}; colour w order {told_words}{size}; sheet 400 {height}")
                self.no_space(f"{MARKS}; colour w order {told_words}{size}; sheet 400 {height - 1}", ONE)
        # Four keys of two scales need 64, and a sheet may be 60 high.
        self.frame(f"{MARKS}; colour n straight; size n straight; sheet 400 64")
        self.no_space(f"{MARKS}; colour n straight; size n straight; sheet 400 63", ONE)
        self.frame(f"{MARKS}; size n straight; sheet 400 60")

    def test_more_words_than_a_legend_has(self):
        rows = [((at, 1), word) for at, word in enumerate(words_many(60))]
        self.drawn(f"{MARKS}; colour w order; sheet 2000 2000", ([("n", "number"), ("w", "word")], rows))


class Axes(Sheets):
    def labels(self, telling, table, side, frame=0):
        return labels_at(self.drawn(telling, table), side, frame)

    def numbers(self, *labels):
        return [told(label) for label in labels]

    def test_sides_of_all_facets_and_own_ones(self):
        table = f"{TOWNS} | 1, a, a | 2, a, a | 30, b, b | 70, b, b"
        head = "x v order; left straight; mark dots left n; facet w order; sheet 600 200"
        whole = ticks_at(("straight",), self.numbers(1, 2, 30, 70), 170, "upright")
        for frame in (0, 1):
            self.assertEqual(self.labels(head, table, "left", frame), whole)
        self.assertEqual(self.labels(f"{head} own", table, "left", 0), ticks_at(("straight",), self.numbers(1, 2), 170, "upright"))
        self.assertEqual(self.labels(f"{head} own", table, "left", 1), ticks_at(("straight",), self.numbers(30, 70), 170, "upright"))
        # The axis of x is of all facets, own or not.
        for own in ("", " own"):
            for frame in (0, 1):
                self.assertEqual(self.labels(head + own, table, "x", frame), ["a", "b"])

    def test_both_sides(self):
        table = f"{TOWNS} | 1, a, a | 200, b, a"
        head = "x v order; left straight; right turns 10; mark dots left n; mark dots right n; facet w order a b; sheet 600 200 own"
        self.assertEqual(self.labels(head, table, "right", 0), ["1", "10"])
        self.assertEqual(self.labels(head, table, "right", 1), ["100", "1000"])
        self.assertEqual(self.labels(head, table, "left", 1)[0], "200")

    def test_own_ones_of_facets_without_rows(self):
        table = f"{TOWNS} | 5, a, a | -, c, a"
        for wish, empty in (("straight", ticks_at(("straight",), [], 170, "upright")), ("turns 10", ["1", "10"])):
            head = f"x v order; left {wish}; mark dots left n; facet w order a b c; sheet 900 400 own"
            self.assertEqual(self.labels(head, table, "left", 1), empty)
            self.assertEqual(self.labels(head, table, "left", 2), empty)
        table = "d day, w word, v word | 2024-01-01, a, a"
        head = "x v order; left days; mark dots left d; facet w order a b; sheet 600 200 own"
        self.assertEqual(self.labels(head, table, "left", 1), [show_day(730119), show_day(730120)])
        # An order of no words is found nowhere.
        self.no_space("x v order; left order; mark dots left w; facet w order a b; sheet 600 200 own", f"{TOWNS} | 5, a, a")
        self.drawn("x v order; left order; mark dots left w; facet w order a b; sheet 600 200", f"{TOWNS} | 5, a, a")

    def test_nought_for_bars_and_heaps_at_their_side_alone(self):
        table = f"{TOWNS} | 50, a, a | 60, b, b"
        for mark in ("dots", "boxes", "bars", "heaps"):
            colour = "; colour w order" if mark == "heaps" else ""
            head = f"x v order; left straight; right straight; mark {mark} left n; mark dots right n{colour}; sheet 600 200"
            self.assertEqual(self.labels(head, table, "left")[0], "0" if mark in ("bars", "heaps") else "50")
            self.assertEqual(self.labels(head, table, "right")[0], "50")
            head = f"x v order; left straight; right straight; mark dots left n; mark {mark} right n{colour}; sheet 600 200"
            self.assertEqual(self.labels(head, table, "right")[0], "0" if mark in ("bars", "heaps") else "50")
            self.assertEqual(self.labels(head, table, "left")[0], "50")
            head = f"x v order; left straight; mark dots left n; mark {mark} left n{colour}; sheet 600 200"
            self.assertEqual(self.labels(head, table, "left")[0], "0" if mark in ("bars", "heaps") else "50")

    def test_bands_by_both_columns(self):
        table = "x number, n number, m number | 0, 50, 70 | 1, 60, 2 | 2, -, 90"
        head = "x x straight; left straight; mark bands left n m; sheet 600 200"
        self.assertEqual(self.labels(head, table, "left"), ticks_at(("straight",), self.numbers(50, 60, 70, 2, 90), 180, "upright"))
        head = "x x straight; left straight; mark lines left n; sheet 600 200"
        self.assertEqual(self.labels(head, table, "left"), ticks_at(("straight",), self.numbers(50, 60), 180, "upright"))

    def test_words_have_no_other_on_the_scale(self):
        table = "x number, w word, v word | 0, a, c | 1, b, d"
        self.assertEqual(self.labels("x x straight; left order; mark words left w v; sheet 600 200", table, "left"), ["a", "b"])

    def test_heaps_by_sums(self):
        rows = "5, a, a | 7, a, b | 20, b, a | 30, b, b | -100, a, c | -100, b, c | -, a, d"
        head = "x w order; left straight; mark heaps left n; colour v order; sheet 600 200"
        self.assertEqual(self.labels(head, f"{TOWNS} | {rows}", "left"), ticks_at(("straight",), self.numbers(0, 50), 180, "upright"))
        # Of each facet and word: the sums of the two facets are apart.
        table = "n number, w word, v word, u word | 20, a, a, x | 30, a, b, x | 40, a, a, y"
        head = "x w order; left straight; mark heaps left n; colour v order; facet u order; sheet 600 200"
        for frame in (0, 1):
            self.assertEqual(self.labels(head, table, "left", frame), ticks_at(("straight",), self.numbers(0, 50), 170, "upright"))
        self.assertEqual(self.labels(f"{head} own", table, "left", 1), ticks_at(("straight",), self.numbers(0, 40), 170, "upright"))
        # Each layer by itself.
        table = f"{TOWNS}, m number | 20, a, a, 35 | 30, a, b, 35"
        head = "x w order; left straight; mark heaps left n; mark heaps left m; colour v order; sheet 600 200"
        self.assertEqual(self.labels(head, table, "left"), ticks_at(("straight",), self.numbers(0, 70), 180, "upright"))

    def test_heaps_beside_other_marks(self):
        table = f"{TOWNS} | 20, a, a | 30, a, b | -5, a, c"
        head = "x w order; left straight; mark heaps left n; mark dots left n; colour v order; sheet 600 200"
        self.assertEqual(self.labels(head, table, "left"), ticks_at(("straight",), self.numbers(-5, 50), 180, "upright"))

    def test_cells_of_rows_that_have_no_place_elsewhere(self):
        # Nothing at x, a word that x's order lacks, nothing for colour, size and other: the cells count all the same.
        columns = "n number, w word, v word, m number"
        for row in ("90, -, a, 1", "90, c, a, 1", "90, a, -, 1", "90, a, c, 1", "90, a, a, -", "90, a, a, 50"):
            table = f"{columns} | 10, a, a, 1 | {row}"
            for mark in ("dots left n", "words left n v"):
                head = f"x w order a b; left straight; mark {mark}; colour v order a b; size m straight 0 9; sheet 600 200"
                self.assertEqual(self.labels(head, table, "left"), ticks_at(("straight",), self.numbers(10, 90), 180, "upright"))
        # Where the y has no place, x counts too, and so does a colour.
        table = f"{columns} | 10, a, a, 1 | -, c, b, 1"
        paper = self.drawn("x w order; left straight; mark dots left n; colour v order; sheet 600 200", table)
        self.assertEqual(labels_at(paper, "x"), ["a", "c"])
        self.assertEqual([key[4] for key in shapes_of(paper, "key")], ["a", "b"])
        # Heaps: rows without a word of x are of no word; those of a word that x lacks are of it.
        for row, most in (("90, -, a, 1", 10), ("90, c, a, 1", 90), ("90, a, -, 1", 100), ("90, a, c, 1", 100)):
            head = "x w order a b; left straight; mark heaps left n; colour v order a b; sheet 600 200"
            self.assertEqual(self.labels(head, f"{columns} | 10, a, a, 1 | {row}", "left"),
                             ticks_at(("straight",), self.numbers(0, most), 180, "upright"))

    def test_rows_in_no_facet_are_looked_at_no_further(self):
        table = f"{TOWNS} | 10, a, a | 20, a, b | 900, c, d | 900, -, d"
        head = "x v order; left straight; mark dots left n; colour v order; size n straight; facet w order a; sheet 600 200"
        paper = self.drawn(head, table)
        self.assertEqual(labels_at(paper, "x"), ["a", "b"])
        self.assertEqual(labels_at(paper, "left"), ticks_at(("straight",), self.numbers(10, 20), 170, "upright"))
        self.assertEqual([key[4] for key in shapes_of(paper, "key")], ["a", "b", "10", "20"])
        heaps = "x v order; left straight; mark heaps left n; colour v order; facet w order a; sheet 600 200"
        self.assertEqual(self.labels(heaps, table, "left"), ticks_at(("straight",), self.numbers(0, 20), 170, "upright"))

    def test_words_in_the_order_of_layers_then_rows(self):
        table = "n number, w word, v word | 1, c, z | 2, a, c | 3, b, y | 4, a, a"
        for layers, words in (("mark dots left w", ["c", "a", "b"]), ("mark dots left v", ["z", "c", "y", "a"]),
                              ("mark dots left w; mark words left v w", ["c", "a", "b", "z", "y"]),
                              ("mark words left v w; mark dots left w", ["z", "c", "y", "a", "b"])):
            self.assertEqual(self.labels(f"x n straight; left order; {layers}; sheet 600 300", table, "left"), words)
        self.assertEqual(self.labels("x w order; left straight; mark dots left n; sheet 600 300", table, "x"), ["c", "a", "b"])
        both = "x n straight; left order; right order; mark dots right w; mark dots left v; mark dots right v; sheet 600 300"
        self.assertEqual(self.labels(both, table, "right"), ["c", "a", "b", "z", "y"])
        self.assertEqual(self.labels(both, table, "left"), ["z", "c", "y", "a"])
        # Of rows that a plan puts together, by their order behind it.
        kinds = "kinds w : m greatest n; x w order; left straight; mark dots left m; sheet 600 300"
        self.assertEqual(self.labels(kinds, table, "x"), ["c", "a", "b"])

    def test_words_own(self):
        table = f"{TOWNS} | 1, a, c | 2, b, a | 3, a, b | 4, b, b"
        head = "x n straight; left order; mark dots left v; facet w order; sheet 600 200 own"
        self.assertEqual(self.labels(head, table, "left", 0), ["c", "b"])
        self.assertEqual(self.labels(head, table, "left", 1), ["a", "b"])

    def test_where_no_axis_is_found(self):
        wide = " ".join(words_many(40))
        self.no_space(f"x n straight; left order {wide}; mark dots left w; sheet 600 400", ONE)
        self.drawn(f"x n straight; left order {wide}; mark dots left w; sheet 600 500", ONE)
        self.no_space(f"x w order {wide}; left straight 0 9; mark dots left n; sheet 700 400", ONE)
        self.drawn(f"x w order {wide}; left straight 0 9; mark dots left n; sheet 784 400", ONE)
        self.no_space(f"x w order {wide}; left straight 0 9; mark dots left n; sheet 783 400", ONE)
        self.no_space("x w order; left straight; mark dots left n; sheet 600 400", "n number, w word | 1, -")
        self.no_space("x w order; left straight; mark dots left n; sheet 600 400", "n number, w word")


if __name__ == "__main__":
    unittest.main()
