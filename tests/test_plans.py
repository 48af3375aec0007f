"""Points 10 and 11: plans, the columns behind them and what they make of a table."""

import copy
import random
import unittest
from fractions import Fraction
from math import floor

from markscale.days import day_of
from markscale.errors import NoPlan, NoTable
from markscale.plans import columns_behind, planned
from things import is_text, kept, looped, things

DAY = day_of(2024, 2, 29)
COLUMNS = [("price", "number"), ("town", "word"), ("when", "day")]
ROWS = [
    ((5, 2), "bern", DAY), (None, "ulm", DAY + 1), ((-3, 1), "bern", None), ((1, 1), None, DAY),
    ((7, 2), "ulm", DAY - 1), (None, None, None), ((1, 1), "bern", DAY + 2),
]
TABLE = (COLUMNS, ROWS)
THERE = ("there", "price")
SIEVE = ("sieve", THERE)
BINS = ("bins", "price", "low", (0, 1), (2, 1))
MAKES = [("many", "count", "price"), ("total", "sum", "price")]
KINDS = ("kinds", ["town"], MAKES)
EIGHT = [(name, "number") for name in "abcdefgh"]


def bins(new, column="a"):
    return ("bins", column, new, (0, 1), (1, 1))


class Case(unittest.TestCase):
    def refused(self, steps, step, columns=COLUMNS):
        with self.assertRaises(NoPlan) as caught:
            columns_behind(steps, columns)
        self.assertEqual(caught.exception.step, step)
        with self.assertRaises(NoPlan) as caught:
            planned(steps, (columns, []))
        self.assertEqual(caught.exception.step, step)

    def bad_step(self, step, columns=COLUMNS):
        self.refused([step], 0, columns)
        self.refused([("sieve", ("there", columns[0][0]))] * 3 + [step], 3, columns)

    def good_step(self, step, columns=COLUMNS):
        kept(self, columns_behind, [step], columns)


class Columns(Case):
    def test_none_to_six_steps(self):
        self.assertEqual(columns_behind([], COLUMNS), COLUMNS)
        for many in range(1, 7):
            self.assertEqual(kept(self, columns_behind, [SIEVE] * many, COLUMNS), COLUMNS)
        self.refused([SIEVE] * 7, 6)
        self.refused([SIEVE] * 20, 6)
        self.refused([SIEVE] * 6 + [None], 6)

    def test_bins(self):
        self.assertEqual(columns_behind([BINS], COLUMNS), COLUMNS + [("low", "number")])
        self.assertEqual(columns_behind([BINS, bins("lower", "low")], COLUMNS),
                         COLUMNS + [("low", "number"), ("lower", "number")])

    def test_kinds(self):
        self.assertEqual(columns_behind([KINDS], COLUMNS), [("town", "word"), ("many", "number"), ("total", "number")])
        makes = [("first", "least", "when"), ("last", "greatest", "when"), ("low", "least", "price"),
                 ("many", "count", "town")]
        self.assertEqual(columns_behind([("kinds", ["when", "price"], makes)], COLUMNS),
                         [("when", "day"), ("price", "number"), ("first", "day"), ("last", "day"), ("low", "number"),
                          ("many", "number")])
        self.assertEqual(columns_behind([("kinds", [], makes[:1])], COLUMNS), [("first", "day")])
        self.assertEqual(columns_behind([("kinds", ["a", "b", "c"], [("x", "mean", "a")])], EIGHT),
                         EIGHT[:3] + [("x", "number")])

    def test_columns_are_found_step_by_step(self):
        behind = [BINS, ("kinds", ["low"], [("total", "sum", "price")]), ("sieve", ("under", "total", (9, 1))),
                  ("bins", "total", "price", (0, 1), (1, 2)), ("sieve", ("there", "price"))]
        self.assertEqual(columns_behind(behind, COLUMNS), [("low", "number"), ("total", "number"), ("price", "number")])
        self.refused([KINDS, SIEVE], 1)
        self.refused([KINDS, ("bins", "price", "low", (0, 1), (2, 1))], 1)
        self.refused([("sieve", ("there", "low")), BINS], 0)

    def test_what_is_told_is_the_askers_own(self):
        for steps in ([], [SIEVE], [BINS], [KINDS]):
            columns = list(COLUMNS)
            told = columns_behind(steps, columns)
            told.clear()
            self.assertEqual(columns, COLUMNS)
            self.assertNotEqual(columns_behind(steps, columns), [])


class Refused(Case):
    def test_no_list(self):
        for thing in things():
            if not isinstance(thing, list):
                self.refused(thing, None)
        self.refused((SIEVE,), None)
        self.refused(SIEVE, None)

    def test_no_steps(self):
        for thing in things():
            self.bad_step(thing)
            self.bad_step((thing, THERE))
            self.bad_step(("sieve", thing))
            self.bad_step(("bins", thing, "low", (0, 1), (2, 1)))
            self.bad_step(("bins", "price", "low", thing, (2, 1)))
            self.bad_step(("bins", "price", "low", (0, 1), thing))
            self.bad_step(("kinds", thing, []))
            self.bad_step(("kinds", [thing], MAKES))
            self.bad_step(("kinds", ["town"], thing))
            self.bad_step(("kinds", ["town"], [thing]))
            self.bad_step(("kinds", ["town"], [("many", thing, "price")]))
            self.bad_step(("kinds", ["town"], [("many", "count", thing)]))
            if not is_text(thing, "a", "number"):
                self.bad_step(("bins", "price", thing, (0, 1), (2, 1)))
                self.bad_step(("kinds", ["town"], [(thing, "count", "price")]))
            if not (isinstance(thing, list) and thing == []):
                self.bad_step(("kinds", thing, MAKES))
        for step in (("sieve",), ("sieve", THERE, THERE), list(SIEVE), ("Sieve", THERE), THERE, ("bins",), ("kinds",),
                     ("sieve", ("there", "none")), (), looped(), ("groups", ["town"], MAKES), ("Kinds", ["town"], MAKES),
                     ("bin",) + BINS[1:], ("", THERE)):
            self.bad_step(step)

    def test_sieves_of_too_many_parts(self):
        test = THERE
        for _ in range(19):
            test = ("not", test)
        self.good_step(("sieve", test))
        self.bad_step(("sieve", ("not", test)))

    def test_no_bins(self):
        for step in (BINS[:4], BINS + (1,), list(BINS), ("bins", "town", "low", (0, 1), (2, 1)),
                     ("bins", "when", "low", (0, 1), (2, 1)), ("bins", "none", "low", (0, 1), (2, 1)),
                     ("bins", "price", "price", (0, 1), (2, 1)), ("bins", "price", "town", (0, 1), (2, 1)),
                     ("bins", "price", "when", (0, 1), (2, 1)), ("bins", "price", "Low", (0, 1), (2, 1)),
                     ("bins", "price", "", (0, 1), (2, 1)), ("bins", "price", "abcdefghi", (0, 1), (2, 1)),
                     ("bins", "price", "low", (0, 1), (0, 1)), ("bins", "price", "low", (0, 1), (-2, 1)),
                     ("bins", "price", "low", (2, 4), (2, 1)), ("bins", "price", "low", (0, 1), (2, 4)),
                     ("bins", "price", "low", (1, 61), (2, 1)), ("bins", "price", "low", (0, 1), (1, 61)),
                     ("bins", "price", "low", (10 ** 18, 1), (2, 1)), ("bins", "price", "low", (0, 1), (10 ** 18, 1)),
                     ("bins", "price", "low", 0, (2, 1)), ("bins", "price", "low", (0, 1), 2),
                     ("bins", ["price"], "low", (0, 1), (2, 1)), ("bins", "price", "low", None, (2, 1))):
            self.bad_step(step)
        for step in (("bins", "price", "low", (-(10 ** 18) + 1, 1), (1, 60)), ("bins", "price", "a", (-1, 2), (10 ** 18 - 1, 1))):
            self.good_step(step)
        self.refused([BINS, BINS], 1)

    def test_no_kinds(self):
        five = [(name, "count", "price") for name in "abcde"]
        for step in (KINDS[:2], KINDS + (1,), list(KINDS), ("kinds", ("town",), MAKES), ("kinds", ["town"], tuple(MAKES)),
                     ("kinds", ["none"], MAKES), ("kinds", ["town", "town"], MAKES), ("kinds", "town", MAKES),
                     ("kinds", ["town"], []), ("kinds", ["town"], five), ("kinds", [], five), ("kinds", [None], MAKES),
                     ("kinds", ["town"], [MAKES[0], MAKES[0]]), ("kinds", ["town"], [("x", "count", "price"), ("x", "sum", "price")]),
                     ("kinds", ["town"], [("town", "count", "price")]), ("kinds", ["town"], [list(MAKES[0])]),
                     ("kinds", ["town"], [MAKES[0][:2]]), ("kinds", ["town"], [MAKES[0] + (1,)]),
                     ("kinds", ["town"], [("X", "count", "price")]), ("kinds", ["town"], [("", "count", "price")]),
                     ("kinds", ["town"], [("x", "many", "price")]), ("kinds", ["town"], [("x", "Count", "price")]),
                     ("kinds", ["town"], [("x", "", "price")]), ("kinds", ["town"], [("x", "count", "none")]),
                     ("kinds", ["town"], [("x", "count", "x")]), ("kinds", ["town"], [MAKES[0], ("y", "sum", "many")])):
            self.bad_step(step)
        self.bad_step(("kinds", ["a", "b", "c", "d"], [("x", "count", "a")]), EIGHT)
        self.bad_step(("kinds", ["a", "b", "a"], [("x", "count", "a")]), EIGHT)
        self.good_step(("kinds", ["a", "b", "c"], [(name, "count", "a") for name in "wxyz"]), EIGHT)

    def test_new_names_of_kinds_may_be_those_of_columns_that_go(self):
        self.good_step(("kinds", ["town"], [("price", "count", "price"), ("when", "count", "when")]))

    def test_makes_and_columns_that_do_not_go_together(self):
        fits = {"count": ("price", "town", "when"), "sum": ("price",), "mean": ("price",), "middle": ("price",),
                "least": ("price", "when"), "greatest": ("price", "when")}
        for word, names in fits.items():
            for name in ("price", "town", "when"):
                step = ("kinds", [], [("x", word, name)])
                if name in names:
                    self.good_step(step)
                else:
                    self.bad_step(step)

    def test_a_second_kinds(self):
        again = ("kinds", ["town"], [("more", "sum", "many")])
        self.refused([KINDS, again], 1)
        self.refused([SIEVE, KINDS, ("sieve", ("there", "town")), again, None], 3)
        self.refused([KINDS, ("sieve", ("there", "price")), again], 1)

    def test_more_than_twelve_columns(self):
        four = [bins(new) for new in "ijkl"]
        self.assertEqual(len(columns_behind(four, EIGHT)), 12)
        self.refused(four + [bins("m")], 4, EIGHT)
        self.refused(four + [("sieve", ("there", "l")), bins("m")], 5, EIGHT)
        self.assertEqual(columns_behind(four + [("kinds", ["l"], [("m", "count", "i")]), bins("n", "m")], EIGHT),
                         [("l", "number"), ("m", "number"), ("n", "number")])

    def test_the_first_bad_step(self):
        self.refused([SIEVE, None, KINDS, None], 1)
        self.refused([SIEVE] * 5 + [None, None], 5)
        self.refused([None] * 8, 0)

    def test_no_table_ahead_of_no_plan(self):
        for steps in (None, [None], [SIEVE] * 7, [], [SIEVE]):
            for table, row in (((COLUMNS, ROWS + [None]), 7), (None, None), (([], []), None), ((COLUMNS, ROWS * 9), 60)):
                with self.assertRaises(NoTable) as caught:
                    planned(steps, table)
                self.assertEqual(caught.exception.row, row)

    def test_what_is_refused_changes_nothing(self):
        steps = [BINS, KINDS, list(SIEVE)]
        before = copy.deepcopy((steps, TABLE))
        with self.assertRaises(NoPlan):
            planned(steps, TABLE)
        self.assertEqual((steps, TABLE), before)


class Planned(Case):
    def plan(self, steps, table=TABLE):
        return kept(self, planned, steps, table)

    def test_no_steps(self):
        self.assertEqual(self.plan([]), (COLUMNS, ROWS, [[at] for at in range(7)], []))
        self.assertEqual(self.plan([], (COLUMNS, [])), (COLUMNS, [], [], []))

    def test_sieve(self):
        told = self.plan([SIEVE, ("sieve", ("same", "town", "bern"))])
        self.assertEqual(told, (COLUMNS, [ROWS[0], ROWS[2], ROWS[6]], [[0], [2], [6]], [(1, 0), (3, 1), (4, 1), (5, 0)]))

    def test_bins(self):
        rows = [((top, bottom),) for top, bottom in ((0, 1), (1, 1), (-1, 1), (5, 2), (2, 1), (9, 2), (-3, 2), (-7, 2))]
        table = ([("a", "number")], rows + [(None,)])
        told = self.plan([("bins", "a", "b", (1, 2), (3, 2))], table)
        self.assertEqual(told[0], [("a", "number"), ("b", "number")])
        self.assertEqual([row[1] for row in told[1]],
                         [(-1, 1), (1, 2), (-1, 1), (2, 1), (2, 1), (7, 2), (-5, 2), (-4, 1), None])
        self.assertEqual([row[:1] for row in told[1]], table[1])
        self.assertEqual(told[2:], ([[at] for at in range(9)], []))

    def test_bins_at_borders(self):
        rows = [((top, 2),) if top % 2 else ((top // 2, 1),) for top in range(-12, 13)]
        for begin in ((0, 1), (7, 1), (-7, 1), (1, 3), (-1, 3)):
            for width in ((1, 1), (1, 2), (2, 3), (5, 1), (100, 1)):
                told = self.plan([("bins", "a", "b", begin, width)], ([("a", "number")], rows))
                for row in told[1]:
                    cell, low = Fraction(*row[0]), Fraction(*row[1])
                    self.assertTrue(low <= cell < low + Fraction(*width))
                    self.assertEqual((low - Fraction(*begin)) / Fraction(*width) % 1, 0)

    def test_kinds(self):
        told = self.plan([KINDS])
        self.assertEqual(told[0], [("town", "word"), ("many", "number"), ("total", "number")])
        self.assertEqual(told[1], [("bern", (3, 1), (1, 2)), ("ulm", (1, 1), (7, 2)), (None, (1, 1), (1, 1))])
        self.assertEqual(told[2:], ([[0, 2, 6], [1, 4], [3, 5]], []))

    def test_kinds_of_several_columns(self):
        told = self.plan([("kinds", ["when", "price"], [("many", "count", "town")])])
        self.assertEqual(told[1], [row[2:] + row[:1] + ((1 if row[1] else 0, 1),) for row in ROWS])
        rows = [("a", (1, 1)), ("b", (1, 1)), ("a", (2, 1)), ("b", (1, 1)), (None, (1, 1)), (None, None), (None, (1, 1)),
                (None, None), ("a", (1, 1))]
        table = ([("w", "word"), ("n", "number")], rows)
        told = self.plan([("kinds", ["n", "w"], [("x", "count", "w"), ("y", "sum", "n")])], table)
        self.assertEqual(told[1], [((1, 1), "a", (2, 1), (2, 1)), ((1, 1), "b", (2, 1), (2, 1)), ((2, 1), "a", (1, 1), (2, 1)),
                                   ((1, 1), None, (0, 1), (2, 1)), (None, None, (0, 1), (0, 1))])
        self.assertEqual(told[2], [[0, 8], [1, 3], [2], [4, 6], [5, 7]])

    def test_kinds_of_no_columns(self):
        told = self.plan([("kinds", [], [("low", "least", "price"), ("last", "greatest", "when")])])
        self.assertEqual(told, ([("low", "number"), ("last", "day")], [((-3, 1), DAY + 2)], [list(range(7))], []))

    def test_kinds_of_no_rows(self):
        for names in ([], ["town"]):
            self.assertEqual(self.plan([("kinds", names, MAKES)], (COLUMNS, []))[1:], ([], [], []))
        told = self.plan([("sieve", ("both", THERE, ("not", THERE))), ("kinds", [], MAKES)])
        self.assertEqual(told, ([("many", "number"), ("total", "number")], [], [], [(at, 0) for at in range(7)]))

    def test_sieve_behind_kinds_takes_all_that_a_row_is_of(self):
        told = self.plan([("sieve", ("there", "when")), KINDS, ("sieve", ("under", "total", (2, 1))), BINS[:1] + ("total",) + BINS[2:]])
        self.assertEqual(told[0], [("town", "word"), ("many", "number"), ("total", "number"), ("low", "number")])
        self.assertEqual(told[1], [(None, (1, 1), (1, 1), (0, 1))])
        self.assertEqual(told[2], [[3]])
        self.assertEqual(told[3], [(0, 2), (1, 2), (2, 0), (4, 2), (5, 0), (6, 2)])

    def test_a_new_name_in_the_stead_of_a_column_that_goes(self):
        told = self.plan([("kinds", [], [("price", "count", "town"), ("town", "sum", "price")])])
        self.assertEqual(told[:2], ([("price", "number"), ("town", "number")], [((5, 1), (5, 1))]))

    def test_makes_within_kinds(self):
        makes = [("a", "mean", "price"), ("b", "middle", "price"), ("c", "least", "when"), ("d", "greatest", "price")]
        told = self.plan([("kinds", ["town"], makes)])
        self.assertEqual(told[1], [("bern", (1, 6), (1, 1), DAY, (5, 2)), ("ulm", (7, 2), (7, 2), DAY - 1, (7, 2)),
                                   (None, (1, 1), (1, 1), DAY, (1, 1))])

    def test_what_is_told_is_the_askers_own(self):
        for steps in ([], [SIEVE], [BINS], [KINDS], [SIEVE, KINDS, ("sieve", ("there", "town"))]):
            table = copy.deepcopy(TABLE)
            told = planned(steps, table)
            right = copy.deepcopy(told)
            for part in told[2]:
                part.append(99)
            for part in told:
                part.clear()
            self.assertEqual(table, TABLE)
            self.assertEqual(planned(steps, table), right)

    def test_what_was_handed_in_is_not_kept(self):
        table = copy.deepcopy(TABLE)
        steps = [SIEVE, ("kinds", ["town"], list(MAKES))]
        told = planned(steps, table)
        right = copy.deepcopy(told)
        table[0].clear()
        table[1].clear()
        steps[1][1].clear()
        steps[1][2].clear()
        steps.clear()
        self.assertEqual(told, right)
        columns = list(COLUMNS)
        behind = columns_behind([], columns)
        columns.clear()
        self.assertEqual(behind, COLUMNS)


class AgainstPlainReading(Case):
    """Many plans by lot, held against a reading of the points by fractions."""

    def row(self, lot):
        cells = [None if lot.random() < 0.2 else (lot.randint(-6, 6), 1), lot.choice([None, "a", "b", "c"]),
                 lot.choice([None, DAY, DAY + 1])]
        return tuple(cells)

    def test_each_row_stands_just_once(self):
        lot = random.Random(5)
        for _ in range(200):
            rows = [self.row(lot) for _ in range(lot.randint(0, 60))]
            steps = [("sieve", ("not", ("same", "town", lot.choice("abc")))),
                     ("bins", "price", "low", (lot.randint(-3, 3), 1), (lot.randint(1, 3), 1)),
                     ("kinds", lot.sample(["low", "town", "when"], lot.randint(0, 3)),
                      [("most", "greatest", "price"), ("total", "sum", "low")]),
                     ("sieve", ("under", "most", (lot.randint(-5, 6), 1)))]
            steps = steps[:lot.randint(0, 4)]
            told = planned(steps, (COLUMNS, rows))
            self.assertEqual(told[0], columns_behind(steps, COLUMNS))
            seen = [at for source in told[2] for at in source] + [pair[0] for pair in told[3]]
            self.assertEqual(sorted(seen), list(range(len(rows))))
            self.assertEqual(told[3], sorted(told[3]))
            self.assertTrue(all(source == sorted(source) and source for source in told[2]))
            self.assertEqual([source[0] for source in told[2]], sorted(source[0] for source in told[2]))
            if len(steps) >= 3:
                self.check_kinds(rows, steps, told)

    def check_kinds(self, rows, steps, told):
        at = {"town": 1, "when": 2, "low": 3}
        full = []
        for row in rows:
            low = None
            if row[0] is not None:
                begin, width = steps[1][3][0], steps[1][4][0]
                low = (begin + floor(Fraction(row[0][0] - begin, width)) * width, 1)
            full.append(row + (low,))
        for row, source in zip(told[1], told[2]):
            for number in source:
                self.assertEqual(row[:-2], tuple(full[number][at[name]] for name in steps[2][1]))
            prices = [full[number][0][0] for number in source if full[number][0]]
            self.assertEqual(row[-2], (max(prices), 1) if prices else None)
            self.assertEqual(row[-1], (sum(full[number][3][0] for number in source if full[number][3]), 1))
        self.assertEqual(len(set(row[:-2] for row in told[1])), len(told[1]))


if __name__ == "__main__":
    unittest.main()
