"""Point 19: tellings written and read."""

import copy
import unittest

from markscale.days import day_of
from markscale.errors import NoTelling
from markscale.tellings import look_at_telling
from markscale.tellingtexts import read_telling, show_telling
from tell import BROKEN, DAYS, ENDS, FORMS, ORDER, STRAIGHT, TURNS, WORDS, layer, marked, telling
from things import kept, things, words_many

DAY = day_of(2024, 2, 29)
THERE = ("there", "price")
PLAIN = "x a straight; left straight; mark dots left b; sheet 300 200"
MARKS = ("dots", "bars", "heaps", "lines", "bands", "boxes", "words")

WHOLE = telling(
    steps=[("sieve", ("both", THERE, ("under", "price", (5, 2)))), ("bins", "price", "bin", (-1, 3), (5, 1)),
           ("kinds", ["bin", "town"], [("n", "count", "price"), ("total", "sum", "price")])],
    x=("bin", ("turns", 2)), sides=(BROKEN, ENDS),
    layers=(("bands", "left", "n", "total"), ("words", "right", "n", "town"), ("lines", "left", "total", None)),
    colour=("town", WORDS), size=("n", STRAIGHT), facet=("town", ORDER), sheet=(60, 2000, True))
WHOLE_TEXT = ("sieve both there price under price 5/2; bins price bin -1/3 5; kinds bin town : n count price total sum price; "
              "x bin turns 2; left broken 0 10 50 60; right straight 0 10; mark bands left n total; mark words right n town; "
              "mark lines left total; colour town order b a c; size n straight; facet town order; sheet 60 2000 own")

TESTS = [
    (THERE, "there price"),
    (("same", "price", (0, 1)), "same price 0"),
    (("same", "price", (-7, 60)), "same price -7/60"),
    (("same", "price", (10 ** 18 - 1, 1)), "same price 999999999999999999"),
    (("under", "town", "bern"), "under town bern"),
    (("under", "when", DAY), "under when 2024-02-29"),
    (("same", "when", day_of(1000, 1, 1)), "same when 1000-01-01"),
    (("not", THERE), "not there price"),
    (("one", ("not", THERE), ("same", "a", "b")), "one not there price same a b"),
    (("both", ("one", ("there", "a"), ("there", "b")), ("not", ("there", "c"))), "both one there a there b not there c"),
    (("both", ("there", "a"), ("one", ("not", ("there", "b")), ("there", "c"))), "both there a one not there b there c"),
    (("there", "there"), "there there"),
    (("same", "not", "both"), "same not both"),
    (("not", ("under", "under", "same")), "not under under same"),
    (("both", ("there", "one"), ("same", "both", "there")), "both there one same both there"),
]


def sieved(text):
    return f"sieve {text}; {PLAIN}"


def chain(many):
    """The text of a test of as many parts, an odd number, and the test."""
    text, test = "there a", ("there", "a")
    for _ in range(many // 2):
        text, test = f"both there a {text}", ("both", ("there", "a"), test)
    return text, test


class Texts(unittest.TestCase):
    def both_ways(self, whole, text):
        look_at_telling(whole)
        self.assertEqual(kept(self, show_telling, whole), text)
        again = read_telling(text)
        self.assertEqual(again, whole)
        self.assertEqual(repr(again), repr(whole))

    def refused(self, thing):
        with self.assertRaises(NoTelling) as caught:
            read_telling(thing)
        self.assertIsNone(caught.exception.part, thing)


class Written(Texts):
    def test_plain_one(self):
        self.both_ways(telling(), PLAIN)

    def test_whole_one(self):
        self.both_ways(WHOLE, WHOLE_TEXT)

    def test_tests(self):
        for test, text in TESTS:
            self.both_ways(telling(steps=[("sieve", test)]), sieved(text))

    def test_twenty_parts(self):
        text, test = chain(19)
        self.both_ways(telling(steps=[("sieve", test)]), sieved(text))
        self.both_ways(telling(steps=[("sieve", ("not", test))]), sieved(f"not {text}"))
        deep, text = ("there", "a"), "there a"
        for _ in range(19):
            deep, text = ("not", deep), f"not {text}"
        self.both_ways(telling(steps=[("sieve", deep)]), sieved(text))

    def test_steps(self):
        for step, text in (
                (("bins", "a", "b", (0, 1), (1, 60)), "bins a b 0 1/60"),
                (("bins", "a", "a", (-1, 2), (10 ** 18 - 1, 1)), "bins a a -1/2 999999999999999999"),
                (("kinds", [], [("n", "count", "a")]), "kinds : n count a"),
                (("kinds", ["a", "b", "c"], [("n", "mean", "n"), ("n", "middle", "a")]), "kinds a b c : n mean n n middle a"),
                (("kinds", ["n"], [("n", "least", "a"), ("g", "greatest", "b"), ("s", "sum", "c"), ("k", "count", "d")]),
                 "kinds n : n least a g greatest b s sum c k count d")):
            self.both_ways(telling(steps=[step]), f"{text}; {PLAIN}")
        # How many are kinds is looked at with columns alone.
        step = ("kinds", ["a"], [("n", "count", "b")])
        self.both_ways(telling(steps=[step] * 6), "kinds a : n count b; " * 6 + PLAIN)

    def test_wishes(self):
        texts = {STRAIGHT: "straight", ENDS: "straight 0 10", TURNS: "turns 10", ("turns", 2): "turns 2",
                 BROKEN: "broken 0 10 50 60", DAYS: "days", ORDER: "order", WORDS: "order b a c"}
        for wish in FORMS:
            text = texts[wish]
            self.both_ways(telling(x=("a", wish)), PLAIN.replace("x a straight", f"x a {text}"))
            self.both_ways(telling(sides=(wish, None)), PLAIN.replace("left straight", f"left {text}"))
            if wish[0] in ("straight", "order"):
                self.both_ways(telling(colour=("c", wish)), PLAIN.replace("sheet", f"colour c {text}; sheet"))
            if wish[0] == "straight":
                self.both_ways(telling(size=("c", wish)), PLAIN.replace("sheet", f"size c {text}; sheet"))
            if wish[0] == "order":
                self.both_ways(telling(facet=("c", wish)), PLAIN.replace("sheet", f"facet c {text}; sheet"))
        three = ("broken", (((-1, 1), (-1, 2)), ((0, 1), (1, 3)), ((1, 2), (1, 1))))
        self.both_ways(telling(x=("a", three)), PLAIN.replace("x a straight", "x a broken -1 -1/2 0 1/3 1/2 1"))
        sixty = words_many(60)
        self.both_ways(telling(x=("a", ("order", tuple(sixty)))), PLAIN.replace("a straight", "a order " + " ".join(sixty)))
        self.both_ways(telling(x=("a", ("order", ("order",)))), PLAIN.replace("a straight", "a order order"))

    def test_names_that_are_words_of_rows(self):
        self.both_ways(telling(x=("x", STRAIGHT), layers=(("dots", "left", "sheet", None), ("words", "left", "mark", "own"))),
                       "x x straight; left straight; mark dots left sheet; mark words left mark own; sheet 300 200")

    def test_marks_and_sides(self):
        for mark in MARKS:
            whole = marked(mark)
            text = show_telling(whole)
            other = " c" if mark in ("bands", "words") else ""
            self.assertIn(f"; mark {mark} left b{other}; ", text)
            self.both_ways(whole, text)
        self.both_ways(telling(sides=(None, TURNS), layers=(layer("dots", "right"),)),
                       "x a straight; right turns 10; mark dots right b; sheet 300 200")
        self.both_ways(telling(sides=(DAYS, TURNS), layers=(layer("dots", "right"), layer("dots"))),
                       "x a straight; left days; right turns 10; mark dots right b; mark dots left b; sheet 300 200")

    def test_sheets(self):
        for sheet, text in (((60, 2000, False), "60 2000"), ((2000, 60, True), "2000 60 own"), ((999, 1000, True), "999 1000 own")):
            self.both_ways(telling(sheet=sheet), PLAIN.replace("300 200", text))

    def test_what_is_told_is_the_askers_own(self):
        first = read_telling(WHOLE_TEXT)
        first[0][2][1].append("x")
        first[0][2][2].clear()
        first[0].clear()
        self.assertEqual(read_telling(WHOLE_TEXT), WHOLE)
        whole = copy.deepcopy(WHOLE)
        text = show_telling(whole)
        whole[0].clear()
        self.assertEqual(text, WHOLE_TEXT)


class Refused(Texts):
    def test_anything(self):
        for thing in things():
            self.refused(thing)
        for thing in (WHOLE, [PLAIN], (PLAIN,), PLAIN.encode(), {PLAIN: 1}):
            self.refused(thing)

    def test_blanks(self):
        for text in ("", " ", "; ", PLAIN + " ", " " + PLAIN, PLAIN + "; ", "; " + PLAIN, PLAIN + ";", PLAIN + "\n",
                     PLAIN.replace(" ", "  "), PLAIN.replace("; ", ";"), PLAIN.replace("; ", ";  "), PLAIN.replace("; ", " ; "),
                     PLAIN.replace("; ", "; ; "), PLAIN.replace(" ", ""), PLAIN.replace(" ", "\t"), PLAIN.replace("; ", "\n"),
                     PLAIN.replace(" a ", "  a "), PLAIN.replace("a straight", "a straight "), PLAIN.upper()):
            self.refused(text)
        for at, sign in enumerate(WHOLE_TEXT):
            if sign == " ":
                self.refused(WHOLE_TEXT[:at] + " " + WHOLE_TEXT[at:])

    def test_each_telling_is_written_in_one_way(self):
        for at in range(len(WHOLE_TEXT)):
            for sign in ("", " ", "a", "0", "-", ";", ":", WHOLE_TEXT[at] * 2):
                text = WHOLE_TEXT[:at] + sign + WHOLE_TEXT[at + 1:]
                try:
                    told = read_telling(text)
                except NoTelling as error:
                    self.assertIsNone(error.part)
                else:
                    self.assertIsNone(look_at_telling(told))
                    self.assertEqual(show_telling(told), text)

    def test_rows_in_another_order_twice_or_lacking(self):
        rows = WHOLE_TEXT.split("; ")
        kinds = [row.split(" ")[0] for row in rows]
        step_or_mark = ("sieve", "bins", "kinds", "mark")
        for at in range(len(rows)):
            if kinds[at] in ("x", "sheet", "left", "right"):
                self.refused("; ".join(rows[:at] + rows[at + 1:]))
            if kinds[at] not in step_or_mark:
                self.refused("; ".join(rows[:at] + [rows[at]] + rows[at:]))
                self.refused("; ".join(rows + [rows[at]]))
            for other in range(at + 1, len(rows)):
                if not (kinds[at] in step_or_mark and kinds[other] in step_or_mark and (kinds[at] == "mark") == (kinds[other] == "mark")):
                    changed = list(rows)
                    changed[at], changed[other] = rows[other], rows[at]
                    self.refused("; ".join(changed))
        self.refused("; ".join(rows + ["mark lines left total"]))
        self.refused("; ".join(rows[:6] + ["mark lines left total"] + rows[6:]))
        self.refused("; ".join(rows[:3] + ["bins a b 0 1"] * 4 + rows[3:]))
        self.assertEqual(len(read_telling("; ".join(rows[:3] + ["bins a b 0 1"] * 3 + rows[3:]))[0]), 6)
        self.refused(PLAIN.replace("mark dots left b; ", ""))

    def test_rows_of_no_form(self):
        for row in ("sieve", "bins", "kinds", "x", "left", "right", "mark", "colour", "size", "facet", "sheet", "", "y a", "own",
                    "side left", "colour a", "colour order", "colour straight", "size a", "size a order", "facet a straight",
                    "facet a order a a", "colour a days", "colour a turns 2"):
            for text in (f"{row}; {PLAIN}", f"{PLAIN}; {row}", PLAIN.replace("mark", f"{row}; mark"),
                         PLAIN.replace("sheet", f"{row}; sheet")):
                self.refused(text)

    def test_tests(self):
        for text in ("", "there", "there a b", "there A", "there -", "there 1", "same a", "same a -", "same a b c", "same a B",
                     "same a 1/61", "same a 2/4", "same a 01", "same a -0", "same a +1", "same a 1000000000000000000",
                     "same a 1/1", "same a 1/0", "same a abcdefghi", "same a 0999-01-01", "same a 9000-01-01",
                     "same a 2023-02-29", "same a 2024-2-9", "same a 24-02-29", "under a", "under a b c", "under 1 b",
                     "not", "not a", "not there", "not there a b", "not not", "both there a", "both there a there b there c",
                     "both", "one there a", "one", "and there a there b", "there a there b", "same", "under",
                     "both both there a there b", "one there a same b", "there a ; there b", "same a -1-2", "same a --1",
                     "same a " + "1" * 5000, "same a b-c-d", "under a there b"):
            self.refused(sieved(text))

    def test_tests_of_more_than_twenty_parts(self):
        self.refused(sieved(chain(21)[0]))
        self.refused(sieved("not " * 20 + "there a"))
        self.assertEqual(read_telling(sieved("not " * 19 + "there a"))[0][0][1][0], "not")
        self.refused(sieved("not " * 2500 + "there a"))
        self.refused(sieved("both there a " * 800 + "there a"))
        self.refused(sieved("both " * 2000 + "there a"))

    def test_bins(self):
        for text in ("a b 0", "a b 0 1 2", "a b 0 0", "a b 0 -1", "A b 0 1", "a B 0 1", "a b x 1", "a b 0 x", "a b - 1",
                     "a b 0 -", "a b 1/61 1", "a b 0 1/61", "a b 1000000000000000000 1", "a b 0 1000000000000000000",
                     "a b 2/4 1", "a b 2024-02-29 1", "a b 0 2024-02-29", "a 0 1", "a b 00 1"):
            self.refused(f"bins {text}; {PLAIN}")

    def test_kinds(self):
        make = "n count a"
        for text in (make, f"a {make}", "a :", ":", f"a b c d : {make}", f"a a : {make}", f"A : {make}", f"a:{make}", f"a :{make}",
                     f"a: {make}", f"a : : {make}", f": a : {make}", f"a : {make} :", "a : n count", "a : n count a b",
                     "a : n all a", "a : n 1 a", "a : N count a", "a : n count A", "a : n Count a", f"a , b : {make}",
                     "a : " + " ".join([make] * 5), f"- : {make}", f"a 1 : {make}", "a : n count a m sum"):
            self.refused(f"kinds {text}; {PLAIN}")
        self.assertEqual(len(read_telling("kinds a : " + " ".join([make] * 4) + "; " + PLAIN)[0][0][2]), 4)

    def test_wishes(self):
        for text in ("", "straight 0", "straight 0 1 2", "straight 1 0", "straight 0 0", "straight a b", "straight 0 1/61",
                     "straight - 1", "straight 0 2/4", "straight 0 01", "turns", "turns 3", "turns 02", "turns 2 10", "turns 2/1",
                     "turns ten", "turns -2", "turns 1/2", "broken", "broken 0 10", "broken 0 10 50", "broken 0 10 50 60 70",
                     "broken 0 10 10 60", "broken 50 60 0 10", "broken 0 10 60 50", "broken 0 1 2 3 4 5 6 7 8 9",
                     "broken a b c d", "broken - 1 2 3", "days 1", "days 2024-01-01 2024-02-02", "order a a", "order A",
                     "order 1", "order -", "order abcdefghi", "order " + " ".join(words_many(61)), "level", "Straight",
                     "straight,", "order a, b", "2", "-"):
            self.refused(PLAIN.replace("x a straight", f"x a {text}"))
            self.refused(PLAIN.replace("left straight", f"left {text}"))
            self.refused(PLAIN.replace("sheet", f"colour c {text}; sheet"))
            self.refused(PLAIN.replace("sheet", f"facet c {text}; sheet"))

    def test_what_is_no_telling(self):
        for text in (PLAIN.replace("x a", "x A"), PLAIN.replace("x a straight", "x straight"), PLAIN.replace("left s", "right s"),
                     PLAIN.replace("left s", "top s"), PLAIN.replace("dots", "dot"), PLAIN.replace("left b", "top b"),
                     PLAIN.replace("left b", "left"), PLAIN.replace("left b", "left b c"), PLAIN.replace("left b", "b"),
                     PLAIN.replace("left b", "left B"), PLAIN.replace("left b", "left -"), PLAIN.replace("dots left b", "words left b"),
                     PLAIN.replace("dots left b", "words left b c d"), PLAIN.replace("dots left b", "bands left b C"),
                     PLAIN.replace("dots", "bars"), PLAIN.replace("a straight", "a order").replace("dots", "lines"),
                     PLAIN.replace("a straight", "a order").replace("dots", "heaps"),
                     PLAIN.replace("mark", "right straight; mark"), PLAIN.replace("left straight", "left days").replace("dots", "lines"),
                     PLAIN.replace("mark dots left b", "; ".join(["mark dots left b"] * 4))):
            self.refused(text)

    def test_sheets(self):
        for text in ("", "300", "300 200 100", "300 200 Own", "300 200 own own", "300 own", "own 300 200", "59 200", "300 59",
                     "2001 200", "300 2001", "0300 200", "300 0200", "300 +200", "-300 200", "300/1 200", "300 a", "300 200 -",
                     "3 " + "1" * 5000, "1" * 5000 + " 200", "300 20.0", "300 1e3"):
            self.refused(PLAIN.replace("300 200", text))


if __name__ == "__main__":
    unittest.main()
