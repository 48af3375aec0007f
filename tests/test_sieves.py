"""Point 9: tests of rows."""

import unittest

from markscale.days import day_of
from markscale.sieves import is_so, is_test
from things import deep, kept, looped, things

DAY = day_of(2024, 2, 29)
COLUMNS = [("price", "number"), ("town", "word"), ("when", "day")]
THERE = ("there", "price")
ROW = ((5, 2), "bern", DAY)
EMPTY = (None, None, None)


def nots(many, test=THERE):
    for _ in range(many):
        test = ("not", test)
    return test


def chain(many, word):
    """A test of as many parts, an odd number, nested to the right."""
    test = THERE
    for _ in range(many // 2):
        test = (word, THERE, test)
    return test


class Forms(unittest.TestCase):
    def test_the_six_forms(self):
        for test in (THERE, ("there", "town"), ("there", "when"), ("same", "price", (5, 2)), ("same", "town", "bern"),
                     ("same", "when", DAY), ("under", "price", (0, 1)), ("under", "town", "a"), ("under", "when", DAY),
                     ("not", THERE), ("both", THERE, ("there", "town")), ("one", THERE, THERE),
                     ("not", ("both", ("one", THERE, THERE), ("under", "price", (1, 60)))),
                     ("same", "price", (10 ** 18 - 1, 1)), ("same", "when", day_of(1000, 1, 1))):
            self.assertIs(kept(self, is_test, test, COLUMNS), True, test)

    def test_twenty_parts_and_more(self):
        self.assertIs(is_test(nots(19), COLUMNS), True)
        self.assertIs(is_test(nots(20), COLUMNS), False)
        for word in ("both", "one"):
            self.assertIs(is_test(chain(19, word), COLUMNS), True)
            self.assertIs(is_test(("not", chain(19, word)), COLUMNS), True)
            self.assertIs(is_test(chain(21, word), COLUMNS), False)
            self.assertIs(is_test((word, chain(9, word), nots(9)), COLUMNS), True)
            self.assertIs(is_test((word, chain(9, word), nots(10)), COLUMNS), False)
            self.assertIs(is_test((word, nots(10), chain(9, word)), COLUMNS), False)

    def test_deep_and_wide_ones(self):
        self.assertIs(is_test(nots(100000), COLUMNS), False)
        self.assertIs(is_test(deep(100000, lambda thing: ("both", THERE, thing)), COLUMNS), False)
        wide = THERE
        for _ in range(200):
            wide = ("both", wide, wide)
        self.assertIs(is_test(wide, COLUMNS), False)
        self.assertIs(is_test(("not", looped()), COLUMNS), False)

    def test_no_tests(self):
        for thing in (
                ("there",), ("there", "price", (1, 2)), ("there", "none"), ("there", None), ("there", ["price"]),
                ("there", 0), ("There", "price"), ("", "price"), ("same", "price"), ("same", "price", None),
                ("same", "price", (5, 2), 1), ("same", "none", (5, 2)), ("same", "none", None), ("same", ["price"], (5, 2)),
                ("same", "price", "bern"), ("same", "price", DAY), ("same", "price", (2, 4)), ("same", "price", (1, 61)),
                ("same", "price", (10 ** 18, 1)), ("same", "price", [5, 2]), ("same", "price", True),
                ("same", "town", (5, 2)), ("same", "town", "Bern"), ("same", "town", ""), ("same", "town", DAY),
                ("same", "when", 5), ("same", "when", "2024-02-29"), ("same", "when", True), ("same", "when", None),
                ("under", "price"), ("under", "price", None), ("under", "price", (5, 2), 1), ("under", "none", (5, 2)),
                ("under", "price", "bern"), ("under", "town", (5, 2)), ("under", "when", (5, 2)), ("under", "when", 0),
                ("not",), ("not", THERE, THERE), ("not", None), ("not", list(THERE)), ("not", "price"), ("not", ("there",)),
                ("both", THERE), ("both", THERE, THERE, THERE), ("both", THERE, None), ("both", None, THERE),
                ("both", THERE, list(THERE)), ("both",), ("one", THERE), ("one", THERE, THERE, THERE), ("one", None, THERE),
                ("one", THERE, ("there", "none")), ("one", [], THERE), ("one",), list(THERE), "there price", ("over", "price", (5, 2)),
                ("either", THERE, THERE), (["there"], "price"), (None, "price"), (THERE, THERE), ("sieve", THERE), THERE[:1]):
            self.assertIs(is_test(thing, COLUMNS), False, thing)

    def test_columns_are_heeded(self):
        self.assertIs(is_test(THERE, COLUMNS[1:]), False)
        self.assertIs(is_test(("same", "price", "bern"), [("price", "word")]), True)
        self.assertIs(is_test(THERE, []), False)

    def test_anything(self):
        for thing in things():
            self.assertIs(is_test(thing, COLUMNS), False)
            for odd in (("there", thing), ("same", thing, (5, 2)), ("same", "price", thing), ("under", "when", thing),
                        ("not", thing), ("both", thing, THERE), ("one", THERE, thing), (thing, "price"),
                        (thing, "price", (5, 2)), (thing, THERE)):
                self.assertIs(is_test(odd, COLUMNS), False)


class So(unittest.TestCase):
    def so(self, test, row=ROW):
        told = kept(self, is_so, test, COLUMNS, row)
        self.assertIsInstance(told, bool)
        return told

    def test_there(self):
        for name in ("price", "town", "when"):
            self.assertTrue(self.so(("there", name)))
            self.assertFalse(self.so(("there", name), EMPTY))
        self.assertTrue(self.so(("there", "price"), ((0, 1), None, None)))
        self.assertFalse(self.so(("there", "town"), ((0, 1), None, None)))

    def test_same(self):
        for name, cell, others in (("price", (5, 2), ((5, 3), (2, 1), (3, 1), (-5, 2))),
                                   ("town", "bern", ("ber", "berne", "a")), ("when", DAY, (DAY - 1, DAY + 1))):
            self.assertTrue(self.so(("same", name, cell)))
            self.assertFalse(self.so(("same", name, cell), EMPTY))
            for other in others:
                self.assertFalse(self.so(("same", name, other)))

    def test_under(self):
        for name, cell, before, behind in (("price", (5, 2), ((7, 3), (2, 1), (-3, 1)), ((8, 3), (3, 1), (10, 1))),
                                           ("town", "bern", ("ber", "a", "bermud"), ("berna", "bers", "c")),
                                           ("when", DAY, (DAY - 1,), (DAY + 1, DAY + 366))):
            self.assertFalse(self.so(("under", name, cell)))
            for other in before:
                self.assertFalse(self.so(("under", name, other)))
            for other in behind:
                self.assertTrue(self.so(("under", name, other)))
                self.assertFalse(self.so(("under", name, other), EMPTY))

    def test_put_together(self):
        yes = ("there", "price")
        no = ("same", "town", "ulm")
        self.assertFalse(self.so(("not", yes)))
        self.assertTrue(self.so(("not", no)))
        self.assertTrue(self.so(("not", ("same", "town", "ulm")), EMPTY))
        for one in (yes, no):
            for other in (yes, no):
                self.assertEqual(self.so(("both", one, other)), one == yes and other == yes)
                self.assertEqual(self.so(("one", one, other)), one == yes or other == yes)
        self.assertTrue(self.so(("both", ("one", no, yes), ("not", ("both", yes, no)))))

    def test_nested(self):
        self.assertFalse(self.so(nots(19)))
        self.assertTrue(self.so(nots(18)))
        self.assertTrue(self.so(nots(30)))
        self.assertTrue(self.so(chain(19, "both")))


if __name__ == "__main__":
    unittest.main()
