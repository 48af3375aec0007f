"""Point 35: kinds of tables, and two tellings held against one another."""

import copy
import itertools
import unittest

from fieldwork import emptied
from markscale.days import day_of
from markscale.drawing import drawn
from markscale.errors import NoTable, TooMany
from markscale.kinds import parting, tables_of
from markscale.tables import look_at_table
from markscale.tellingtexts import read_telling
from things import kept, things

DAY = day_of(2024, 2, 29)
NUMBER, WORD = ("n", "number"), ("w", "word")
COLUMNS = [NUMBER, WORD]
CELLS = [[(1, 1), None], ["b", "a"]]


def plain_tables(kind):
    """The plain reading: all lists of rows, by how many, then by their cells' numbers."""
    columns, cells, most = kind
    rows = list(itertools.product(*[range(len(column)) for column in cells]))
    found = []
    for many in range(most + 1):
        for numbers in sorted(itertools.product(rows, repeat=many)):
            found.append((columns, [tuple(column[at] for column, at in zip(cells, row)) for row in numbers]))
    return found


class Tables(unittest.TestCase):
    def check(self, kind, many):
        tables = kept(self, tables_of, kind)
        self.assertEqual(tables, plain_tables(kind))
        self.assertEqual(len(tables), many)
        for table in tables:
            look_at_table(table)

    def refused(self, kind, error=NoTable):
        with self.assertRaises(error) as caught:
            tables_of(kind)
        if error is NoTable:
            self.assertIsNone(caught.exception.row)

    def test_in_the_order_told(self):
        self.assertEqual(tables_of(([NUMBER], [[(2, 1), (1, 1)]], 2)),
                         [([NUMBER], rows) for rows in ([], [((2, 1),)], [((1, 1),)], [((2, 1),), ((2, 1),)], [((2, 1),), ((1, 1),)], [((1, 1),), ((2, 1),)],
                                                        [((1, 1),), ((1, 1),)])])
        self.assertEqual([table[1] for table in tables_of((COLUMNS, CELLS, 1))],
                         [[], [((1, 1), "b")], [((1, 1), "a")], [(None, "b")], [(None, "a")]])

    def test_of_many(self):
        self.check((COLUMNS, CELLS, 0), 1)
        self.check((COLUMNS, CELLS, 1), 5)
        self.check((COLUMNS, CELLS, 2), 21)
        self.check(([NUMBER], [[(1, 1)]], 3), 4)
        self.check(([NUMBER], [[(1, 1), (2, 1), None]], 3), 40)
        self.check(([WORD], [["a", "b", "c", None]], 2), 21)
        self.check(([("d", "day"), NUMBER, WORD], [[DAY], [None], ["a", "b"]], 3), 15)

    def test_of_none(self):
        self.check(([NUMBER], [[(1, 1)]], 0), 1)
        # However many rows could be chosen of.
        columns = [(name, "number") for name in "abcdefgh"]
        self.check((columns, [[(1, 1), (2, 1), (3, 1), None]] * 8, 0), 1)

    def test_sixty_and_more(self):
        # Lists of at most four cells make 54 or 64 rows, none between: the nearest to sixty tables are 55 and 65.
        columns = [(name, "word") for name in "abcd"]
        self.check((columns, [["a", "b"]] + [["a", "b", "c"]] * 3, 1), 55)
        self.refused((columns[:3], [["a", "b", "c", "d"]] * 3, 1), TooMany)
        self.refused(([WORD], [["a", "b", "c", "d"]], 3), TooMany)
        self.refused(([WORD, NUMBER], [["a", "b"], [(1, 1), (2, 1)]], 3), TooMany)
        self.refused((columns[:3], [["a", "b"]] * 3, 2), TooMany)
        self.check((columns[:2], [["a", "b"], ["a", "b", "c"]], 2), 43)
        self.refused(([(name, "word") for name in "abcdefgh"], [["a", "b", "c", "d"]] * 8, 3), TooMany)

    def test_what_is_no_kind(self):
        for columns in ([], [NUMBER, NUMBER], [("N", "number")], (NUMBER,), [("n", "numbers")], [["n", "number"]]):
            self.refused((columns, [[(1, 1)]] * len(columns), 1))
        self.refused(([(word, "number") for word in "abcdefghi"], [[(1, 1)]] * 9, 1))
        for cells in ([], [[(1, 1)]], [[(1, 1)], ["a"], ["a"]], ([(1, 1)], ["a"]), [((1, 1),), ["a"]], [[], ["a"]], [[(1, 1)], []],
                      [[(1, 1), (1, 1)], ["a"]], [[None, None], ["a"]], [["a"], [(1, 1)]], [[(2, 4)], ["a"]], [[(1, 61)], ["a"]], [[1], ["a"]], [[(1, 1)], ["A"]],
                      [[(at, 1) for at in range(5)], ["a"]], [[(1, 1)], list("abcde")], [[(1, 1)], [True]]):
            self.refused((COLUMNS, cells, 1))
        for most in (-1, 4, True, False, None, "1", (1, 1), 10 ** 30):
            self.refused((COLUMNS, CELLS, most))
        self.refused((COLUMNS, CELLS))
        self.refused((COLUMNS, CELLS, 1, 1))
        self.refused([COLUMNS, CELLS, 1])
        # What is no kind is refused so, however many tables it would have.
        self.refused((COLUMNS, [[(1, 1)] * 4, list("abcd")], 3))

    def test_anything(self):
        for thing in things():
            self.refused(thing)
            for at in range(3):
                kind = [COLUMNS, CELLS, 1]
                if not (at == 2 and type(thing) is int and 0 <= thing <= 3):
                    kind[at] = thing
                    self.refused(tuple(kind))
            if thing is not None:
                self.refused(([NUMBER], [[thing]], 1))
            if not (isinstance(thing, list) and thing == [None]):
                self.refused(([NUMBER], [thing], 1))

    def test_what_is_told_is_the_askers_own(self):
        kind = (list(COLUMNS), copy.deepcopy(CELLS), 2)
        tables = tables_of(kind)
        before = copy.deepcopy(tables)
        lists = [part for table in tables for part in table]
        self.assertEqual(len({id(one) for one in lists}), len(lists))
        emptied(tables_of(kind))
        self.assertEqual(tables_of(kind), before)
        emptied(kind)
        self.assertEqual(tables, before)


class Parting(unittest.TestCase):
    KIND = (COLUMNS, [[(1, 1), (0, 1), None], ["a", "b"]], 2)

    def parted(self, one, other, kind=KIND):
        one, other = [read_telling(telling) if isinstance(telling, str) else telling for telling in (one, other)]
        found = kept(self, parting, one, other, kind)
        self.assertEqual(kept(self, parting, other, one, kind), found)
        return found

    def test_that_draw_alike(self):
        head = "x w order a b; left straight 0 2; mark dots left n; sheet 300 200"
        self.assertIsNone(self.parted(head, head))
        self.assertIsNone(self.parted(head, f"sieve there n; {head}"))
        self.assertIsNone(self.parted(head, f"{head} own"))
        # Of rows that are alike in the column itself the least is the greatest.
        least = "kinds w n : s least n; x w order a b; left straight 0 2; mark dots left s; sheet 300 200"
        self.assertIsNone(self.parted(least, least.replace("least", "greatest")))

    def test_the_first_on_which_they_do_not(self):
        head = "x w order a b; left straight 0 2; mark dots left {}; sheet 300 200"
        # Apart where two rows of one word have numbers that are not alike.
        number, table = self.parted("kinds w : s least n; " + head.format("s"), "kinds w : s greatest n; " + head.format("s"))
        self.assertEqual(table, (COLUMNS, [((1, 1), "a"), ((0, 1), "a")]))
        self.assertEqual(number, tables_of(self.KIND).index(table))
        # Apart where one row has nothing: a count of 0 is drawn.
        number, table = self.parted("kinds w : s count n; " + head.format("s"), "sieve there n; kinds w : s count n; " + head.format("s"))
        self.assertEqual((number, table), (5, (COLUMNS, [(None, "a")])))
        # Apart on the table without rows.
        self.assertEqual(self.parted(head.format("n"), head.format("n").replace("300", "301")), (0, (COLUMNS, [])))

    def test_of_fewest_rows_first(self):
        one = "x n straight 0 2; left straight 0 2; mark lines left n; sheet 300 200"
        other = one.replace("lines", "dots")
        self.assertEqual(self.parted(one, other), (1, (COLUMNS, [((1, 1), "a")])))

    def test_refused_by_the_same_class(self):
        small, low = "x w order; left straight; mark dots left n; sheet 60 60", "x w order a b; left straight; mark bars left n; sheet 80 60"
        self.assertIsNone(self.parted(small, low))
        # Without words no axis is found; with one there is, though both draw nothing there.
        fitting = "x w order; left straight 0 2; mark dots left n; sheet 300 200"
        self.assertEqual(self.parted(small, fitting)[0], 1)
        self.assertEqual(self.parted(fitting, fitting.replace("order", "order a b"))[0], 0)
        no_columns = "x z order; left straight; mark dots left n; sheet 300 200"
        self.assertIsNone(self.parted(no_columns, "x w order; left straight; mark dots left z; sheet 300 200"))
        self.assertIsNone(self.parted(no_columns, None))
        no_plan = "sieve there z; x w order; left straight; mark dots left n; sheet 300 200"
        self.assertIsNone(self.parted(no_plan, "kinds z : s sum n; x w order; left straight; mark dots left n; sheet 300 200"))
        self.assertEqual(self.parted(no_plan, no_columns), (0, (COLUMNS, [])))
        self.assertEqual(self.parted(no_plan, small), (0, (COLUMNS, [])))
        self.assertEqual(self.parted(no_columns, small), (0, (COLUMNS, [])))

    def test_shapes_alone_count(self):
        # One shows a row that the other one sieves, but both draw the same shapes.
        head = "x w order a; left straight 0 2; mark dots left n; sheet 300 200"
        one, other = read_telling(head), read_telling("sieve same w a; " + head)
        self.assertIsNone(parting(one, other, self.KIND))
        table = (COLUMNS, [((1, 1), "b")])
        self.assertNotEqual(drawn(one, table), drawn(other, table))

    def test_what_is_no_kind(self):
        telling = read_telling("x w order a; left straight 0 2; mark dots left n; sheet 300 200")
        for thing in things():
            with self.assertRaises(NoTable) as caught:
                parting(telling, telling, thing)
            self.assertIsNone(caught.exception.row)
        with self.assertRaises(TooMany):
            parting(telling, telling, ([WORD], [["a", "b", "c", "d"]], 3))

    def test_what_is_told_is_the_askers_own(self):
        one = read_telling("x w order a b; left straight 0 2; mark dots left n; sheet 300 200")
        other = read_telling("x w order a b; left straight 0 2; mark dots left n; sheet 301 200")
        kind = copy.deepcopy(self.KIND)
        first = parting(one, other, kind)
        emptied(first)
        self.assertEqual(parting(one, other, kind), (0, (COLUMNS, [])))
        self.assertEqual(kind, self.KIND)


if __name__ == "__main__":
    unittest.main()
