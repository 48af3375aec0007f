"""Point 5: numbers written and read."""

import unittest

from markscale.errors import NoNumber
from markscale.figures import is_told, read_number, show_number
from things import things

WRITTEN = (
    ((0, 1), "0"), ((1, 1), "1"), ((-1, 1), "-1"), ((10, 1), "10"), ((-205, 1), "-205"),
    ((1, 2), "1/2"), ((-1, 2), "-1/2"), ((10, 3), "10/3"), ((-7, 60), "-7/60"), ((5, 10 ** 59 + 1), "5/1" + "0" * 58 + "1"),
    ((10 ** 60 - 1, 1), "9" * 60), ((1 - 10 ** 60, 1), "-" + "9" * 60),
    ((10 ** 60 - 1, 10 ** 59), "9" * 60 + "/1" + "0" * 59),
    ((1, 10 ** 60 - 1), "1/" + "9" * 60),
)

UNWRITTEN = (
    "", "-", "/", "-/", "1/", "/2", "-/2", "00", "01", "-01", "007/2", "1/02", "-0", "-0/2", "0/2", "0/1", "+1", "+0",
    "1/+2", "1/-2", "-1/-2", "--1", "1-", "1/0", "0/0", "1/00", "1/1", "5/1", "-5/1", "2/4", "6/3", "-10/5", "3/3",
    " 1", "1 ", " ", "1 /2", "1/ 2", "1\n", "\n1", "1/2\n", "-1\n", "\t1", "1\t", "1/2/3", "1//2", "1_0", "1,0", "1.0",
    "1e3", "0x1", "a", "1a", "a1", "one", "x", "1x", "x1", "1/x", "1" * 61, "-" + "1" * 61, "1/" + "9" * 61, "1" * 61 + "/2", "1" * 5000,
    "1/" + "9" * 5000, "0" * 60, "-" * 60,
)


class Written(unittest.TestCase):
    def test_shown(self):
        for one, text in WRITTEN:
            self.assertEqual(show_number(one), text)

    def test_read(self):
        for one, text in WRITTEN:
            self.assertEqual(read_number(text), one)

    def test_many_read_back(self):
        for top in range(-40, 41):
            for bottom in (1, 2, 3, 7, 9, 11, 59):
                if bottom == 1 or top % bottom not in (0, 3, 6):
                    self.assertEqual(read_number(show_number((top, bottom))), (top, bottom))

    def test_what_writes_none_is_refused(self):
        for text in UNWRITTEN:
            with self.assertRaises(NoNumber, msg=repr(text)):
                read_number(text)

    def test_what_is_no_text_is_refused(self):
        for thing in things() + [(1, 2), 5, ["1"], ("1",), b"1"]:
            with self.assertRaises(NoNumber):
                read_number(thing)


class Told(unittest.TestCase):
    def test_figures_above(self):
        self.assertIs(is_told((10 ** 18 - 1, 1)), True)
        self.assertIs(is_told((1 - 10 ** 18, 1)), True)
        self.assertIs(is_told((10 ** 18, 1)), False)
        self.assertIs(is_told((-(10 ** 18), 1)), False)
        self.assertIs(is_told((10 ** 18 - 1, 2)), True)
        self.assertIs(is_told((10 ** 18, 7)), False)

    def test_bottoms(self):
        self.assertIs(is_told((1, 60)), True)
        self.assertIs(is_told((1, 61)), False)
        self.assertIs(is_told((-1, 59)), True)
        self.assertIs(is_told((-1, 61)), False)
        self.assertIs(is_told((0, 1)), True)

    def test_anything(self):
        for thing in things() + [(2, 4), (0, 2), (1, 0), (True, 1), (1, True), [1, 2], (1, -2), (10 ** 5000, 1), "1/2"]:
            self.assertIs(is_told(thing), False)


if __name__ == "__main__":
    unittest.main()
