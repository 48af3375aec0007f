"""Point 8: tables written and read."""

import unittest

from markscale.days import day_of
from markscale.errors import NoTable
from markscale.tables import look_at_table
from markscale.tabletexts import read_cell, read_table, show_cell, show_table
from things import is_text, kept, things

DAY = day_of(2024, 2, 29)
CELLS = (
    ("number", (0, 1), "0"), ("number", (-5, 2), "-5/2"), ("number", (7, 60), "7/60"), ("number", None, "-"),
    ("number", (10 ** 18 - 1, 1), "9" * 18), ("number", (1 - 10 ** 18, 1), "-" + "9" * 18),
    ("word", "a", "a"), ("word", "abcdefgh", "abcdefgh"), ("word", "number", "number"), ("word", None, "-"),
    ("day", DAY, "2024-02-29"), ("day", day_of(1000, 1, 1), "1000-01-01"), ("day", day_of(8999, 12, 31), "8999-12-31"),
    ("day", None, "-"),
)
COLUMNS = [("price", "number"), ("town", "word"), ("when", "day")]
HEAD = "price number, town word, when day"
GOOD = "5/2, bern, 2024-02-29"
EIGHT = [(name, ("number", "word", "day")[at % 3]) for at, name in enumerate("abcdefgh")]
TABLES = (
    ((COLUMNS, []), HEAD),
    ((COLUMNS, [((5, 2), "bern", DAY), (None, None, None), ((-3, 1), "z", None)]),
     HEAD + "\n" + GOOD + "\n-, -, -\n-3, z, -"),
    (([("a", "word")], [("a",), (None,)]), "a word\na\n-"),
    (([("number", "number")], [((0, 1),)]), "number number\n0"),
    ((COLUMNS, [((5, 2), "bern", DAY)] * 60), HEAD + ("\n" + GOOD) * 60),
    ((EIGHT, [((1, 3), "b", DAY, None, None, None, (2, 1), "h")]),
     "a number, b word, c day, d number, e word, f day, g number, h word\n1/3, b, 2024-02-29, -, -, -, 2, h"),
)


class Cells(unittest.TestCase):
    def test_shown(self):
        for kind, cell, text in CELLS:
            self.assertEqual(show_cell(kind, cell), text)

    def test_read(self):
        for kind, cell, text in CELLS:
            self.assertEqual(read_cell(kind, text), cell)

    def refused(self, kind, thing):
        with self.assertRaises(NoTable) as caught:
            read_cell(kind, thing)
        self.assertIsNone(caught.exception.row)

    def test_what_writes_none(self):
        odd = {
            "number": ["", " ", "--", "- ", " -", "a", "01", "-0", "1/1", "2/4", "1/61", "+1", "1 ", " 1", "1\n",
                       "1" + "0" * 18, "-1" + "0" * 18, "2024-02-29", "1, 2", "1/0", "None", "1/" + "9" * 61],
            "word": ["", " ", "--", "abcdefghi", "A", "a ", " a", "a\n", "1", "a1", "a, b", "None", "2024-02-29"],
            "day": ["", "--", "0999-12-31", "9000-01-01", "0001-01-01", "9999-12-31", "2023-02-29", "2024-2-29",
                    "2024-02-29 ", " 2024-02-29", "2024-02-29\n", "738944", "a", "0", "None"],
        }
        for kind, texts in odd.items():
            for text in texts:
                self.refused(kind, text)

    def test_anything(self):
        for kind in ("number", "word", "day"):
            for thing in things() + [(5, 2), ["a"], DAY, b"-", ("-",)]:
                if is_text(thing, "-") or (kind == "word" and is_text(thing, "a", "number")):
                    continue
                self.refused(kind, thing)


class Written(unittest.TestCase):
    def test_shown(self):
        for table, text in TABLES:
            self.assertEqual(kept(self, show_table, table), text)

    def test_read(self):
        for table, text in TABLES:
            told = read_table(text)
            self.assertEqual(told, table)
            self.assertIsNone(look_at_table(told))

    def test_what_is_told_is_the_askers_own(self):
        text = TABLES[1][1]
        told = read_table(text)
        told[0].append("x")
        told[1].clear()
        self.assertEqual(read_table(text), TABLES[1][0])


class Refused(unittest.TestCase):
    def refused(self, thing, row):
        with self.assertRaises(NoTable) as caught:
            read_table(thing)
        self.assertEqual(caught.exception.row, row)

    def test_no_text(self):
        for thing in things() + [TABLES[1][0], [HEAD], (HEAD,), HEAD.encode()]:
            self.refused(thing, None)

    def test_no_columns(self):
        nine = ", ".join([f"{name} number" for name in "abcdefghi"])
        for head in ("", " ", "price", "price number,", "price number, ", ", price number", ",price number",
                     " price number", "price number ", "price  number", "price number,town word",
                     "price number , town word", "price number,  town word", "price number, , town word",
                     "price number; town word", "price numbers", "price Number", "Price number", "price number word",
                     "number", "price\tnumber", "abcdefghi number", "price number, price word", nine, "price -",
                     "price number\r", GOOD, "-"):
            self.refused(head, None)
            self.refused(head + "\n" + GOOD, None)
            self.refused(head + "\n", None)
        self.refused("\n" + HEAD, None)
        self.refused("\n" + HEAD + "\n" + GOOD, None)

    def test_the_first_bad_row(self):
        odd = ["", " ", "5/2, bern", GOOD + ", -", GOOD + ",", GOOD + ", ", GOOD + " ", " " + GOOD, ", " + GOOD,
               "5/2,bern, 2024-02-29", "5/2,  bern, 2024-02-29", "5/2 , bern, 2024-02-29", "bern, 5/2, 2024-02-29",
               "5/1, bern, 2024-02-29", "5/2, Bern, 2024-02-29", "5/2, bern, 2023-02-29", "5/2, bern, 0999-12-31",
               "1/61, bern, -", "-, -", "-", "-, -, --", "5/2; bern; 2024-02-29", "5/2,, bern, 2024-02-29", HEAD]
        for row in odd:
            self.refused(HEAD + "\n" + row, 0)
            self.refused(HEAD + "\n" + GOOD + "\n" + row, 1)
            self.refused(HEAD + "\n" + GOOD + "\n" + row + "\n" + GOOD + "\n" + row, 1)
            self.refused(HEAD + ("\n" + GOOD) * 59 + "\n" + row, 59)

    def test_line_feeds_too_many(self):
        self.refused(HEAD + "\n", 0)
        self.refused(HEAD + "\n\n" + GOOD, 0)
        self.refused(HEAD + "\n" + GOOD + "\n", 1)
        self.refused(HEAD + "\n" + GOOD + "\n\n" + GOOD, 1)
        self.refused(HEAD + ("\n" + GOOD) * 60 + "\n", 60)

    def test_sixty_one_rows_and_more(self):
        self.refused(HEAD + ("\n" + GOOD) * 61, 60)
        self.refused(HEAD + ("\n" + GOOD) * 100, 60)
        self.refused(HEAD + ("\n" + GOOD) * 60 + "\nbad", 60)
        self.refused(HEAD + ("\n" + GOOD) * 61 + "\nbad", 60)
        self.refused(HEAD + ("\n" + GOOD) * 7 + "\nbad" + ("\n" + GOOD) * 60, 7)
        self.refused(HEAD + ("\n" + GOOD) * 59 + "\nbad" + ("\n" + GOOD) * 60, 59)


if __name__ == "__main__":
    unittest.main()
