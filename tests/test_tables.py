"""Point 7: words, cells, columns and tables."""

import unittest

from markscale.days import day_of
from markscale.errors import NoTable
from markscale.tables import column_at, comes_before, is_cell, is_word, kind_at, look_at_table
from things import is_text, kept, looped, things

FIRST = day_of(1000, 1, 1)
LAST = day_of(8999, 12, 31)
COLUMNS = [("price", "number"), ("town", "word"), ("when", "day")]
ROWS = [((5, 2), "bern", FIRST), (None, None, None), ((-3, 1), "abcdefgh", LAST)]


class Words(unittest.TestCase):
    def test_words(self):
        for thing in ("a", "z", "az", "abcdefgh", "stuvwxyz", "number"):
            self.assertIs(is_word(thing), True)

    def test_no_words(self):
        for thing in ("", "abcdefghi", "A", "aB", "a b", " a", "a ", "a\n", "1", "a1", "-", "a-b", "{", "`", "_"):
            self.assertIs(is_word(thing), False, repr(thing))

    def test_anything(self):
        for thing in things() + [["a"], ("a",), b"a"]:
            self.assertIs(is_word(thing), is_text(thing, "a", "number"))


class Cells(unittest.TestCase):
    def test_numbers(self):
        for thing in (None, (0, 1), (-1, 60), (10 ** 18 - 1, 1)):
            self.assertIs(is_cell("number", thing), True)
        for thing in ((10 ** 18, 1), (1, 61), (2, 4), 5, "a", "5", [1, 2], (True, 1), FIRST):
            self.assertIs(is_cell("number", thing), False)

    def test_words(self):
        for thing in (None, "a", "abcdefgh"):
            self.assertIs(is_cell("word", thing), True)
        for thing in ("", "abcdefghi", "A", (1, 2), FIRST, ["a"], "-"):
            self.assertIs(is_cell("word", thing), False)

    def test_days(self):
        for thing in (None, FIRST, LAST, 730119):
            self.assertIs(is_cell("day", thing), True)
        for thing in (FIRST - 1, LAST + 1, 0, -1, True, "a", (730119, 1), "2024-01-01", [730119]):
            self.assertIs(is_cell("day", thing), False)

    def test_anything(self):
        for thing in things():
            self.assertIs(is_cell("number", thing), thing is None)
            self.assertIs(is_cell("day", thing), thing is None)
            self.assertIs(is_cell("word", thing), thing is None or (isinstance(thing, str) and is_word(thing)))


class Columns(unittest.TestCase):
    def test_column_at(self):
        self.assertEqual([kept(self, column_at, COLUMNS, name) for name in ("price", "town", "when")], [0, 1, 2])
        self.assertIsNone(column_at(COLUMNS, "number"))
        self.assertIsNone(column_at(COLUMNS, "pric"))
        self.assertIsNone(column_at([], "price"))

    def test_kind_at(self):
        self.assertEqual([kind_at(COLUMNS, name) for name in ("price", "town", "when")], ["number", "word", "day"])
        for thing in things():
            self.assertIsNone(kind_at(COLUMNS, thing))


class Order(unittest.TestCase):
    def test_numbers(self):
        self.assertIs(comes_before((1, 3), (1, 2)), True)
        self.assertIs(comes_before((1, 2), (1, 3)), False)
        self.assertIs(comes_before((1, 2), (1, 2)), False)
        self.assertIs(comes_before((-1, 2), (-1, 3)), True)
        self.assertIs(comes_before((10, 1), (9, 1)), False)
        self.assertIs(comes_before((-1, 1), (0, 1)), True)

    def test_words(self):
        self.assertIs(comes_before("a", "b"), True)
        self.assertIs(comes_before("b", "a"), False)
        self.assertIs(comes_before("b", "ab"), False)
        self.assertIs(comes_before("a", "aa"), True)
        self.assertIs(comes_before("aa", "aa"), False)

    def test_days(self):
        self.assertIs(comes_before(FIRST, FIRST + 1), True)
        self.assertIs(comes_before(FIRST + 1, FIRST), False)
        self.assertIs(comes_before(FIRST, FIRST), False)


class Tables(unittest.TestCase):
    def refused(self, thing, row):
        with self.assertRaises(NoTable) as caught:
            look_at_table(thing)
        self.assertEqual(caught.exception.row, row)
        self.assertNotIsInstance(caught.exception.row, bool)

    def test_good_tables(self):
        eight = [(name, "number") for name in "abcdefgh"]
        for table in ((COLUMNS, ROWS), (COLUMNS, []), (COLUMNS, [ROWS[0]] * 60), (eight, [((1, 2),) * 8]),
                      ([("a", "word")], [("a",), (None,)]), ([("number", "number")], [((1, 1),)])):
            self.assertIsNone(kept(self, look_at_table, table))

    def test_no_pair(self):
        for thing in things():
            self.refused(thing, None)
        for thing in ([COLUMNS, ROWS], (COLUMNS,), (COLUMNS, ROWS, None), (ROWS, COLUMNS)):
            self.refused(thing, None)

    def test_no_columns(self):
        nine = [(name, "number") for name in "abcdefghi"]
        for columns in ([], nine, tuple(COLUMNS), dict(COLUMNS), COLUMNS + [("price", "word")],
                        COLUMNS + [("town", "word")], [list(column) for column in COLUMNS], [("price",)],
                        [("price", "number", 1)], [("Price", "number")], [("", "number")], [("abcdefghi", "number")],
                        [("price", "numbers")], [("price", "")], [("price", "Number")], [("price", None)],
                        [(None, "number")], [(["price"], "number")], [("price", ["number"])], [("price", {})],
                        [("a", "word"), None], ["ab"], [("kind", "kind")]):
            self.refused((columns, []), None)
            self.refused((columns, [()]), None)
            self.refused((columns, None), None)
        for thing in things():
            self.refused((thing, []), None)
            self.refused(([thing], []), None)
            self.refused(([("a", "word"), thing], []), None)
            if not is_text(thing, "number"):
                self.refused(([("a", thing)], []), None)

    def test_rows_that_are_no_list(self):
        for thing in things():
            if not isinstance(thing, list):
                self.refused((COLUMNS, thing), None)
        self.refused((COLUMNS, tuple(ROWS)), None)

    def test_the_first_odd_row(self):
        odd = [(), ROWS[0][:2], ROWS[0] + (None,), list(ROWS[0]), ("a", "bern", FIRST), ((1, 2), (1, 2), FIRST),
               ((1, 2), "bern", "bern"), ((1, 2), "bern", FIRST - 1), ((1, 61), None, None), (None, "", None),
               (None, None, True), (5, None, None), looped()]
        for row in odd + things():
            self.refused((COLUMNS, [row]), 0)
            self.refused((COLUMNS, ROWS + [row]), 3)
            self.refused((COLUMNS, ROWS + [row, ROWS[0], row]), 3)
            self.refused((COLUMNS, [ROWS[0]] * 59 + [row]), 59)

    def test_the_sixty_first_row(self):
        self.refused((COLUMNS, [ROWS[0]] * 61), 60)
        self.refused((COLUMNS, [ROWS[0]] * 100), 60)
        self.refused((COLUMNS, [ROWS[0]] * 60 + [None]), 60)
        self.refused((COLUMNS, [ROWS[0]] * 61 + [None]), 60)
        self.refused((COLUMNS, [ROWS[0]] * 7 + [None] + [ROWS[0]] * 60), 7)
        self.refused((COLUMNS, [ROWS[0]] * 59 + [None] + [ROWS[0]] * 60), 59)

    def test_what_is_refused_stays(self):
        table = (COLUMNS[:], [ROWS[0], list(ROWS[1])])
        with self.assertRaises(NoTable):
            look_at_table(table)
        self.assertEqual(table, (COLUMNS, [ROWS[0], list(ROWS[1])]))


if __name__ == "__main__":
    unittest.main()
