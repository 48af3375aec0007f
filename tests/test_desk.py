"""Points 37 and 38: the desk."""

import unittest

from chance import Chance
from markscale.desk import Desk
from markscale.drawing import drawn
from markscale.errors import MarkError, NoName, NoPlan, NoRow, NoSpace, NoTable, NoTelling
from markscale.figures import show_number
from markscale.reader import not_apart, read_back
from markscale.rules import sayings
from markscale.tabletexts import show_table
from markscale.tellingtexts import show_telling
from sheets import is_ground
from things import things

TABLE = "n number, m number, w word, d day | 10, 10, a, 2024-01-01 | 20, 20, b, - | 20, 20, b, - | -, 30, a, 2024-02-29"
DOTS = "sieve not same m 30; x n straight 0 236; left straight 0 180; mark dots left m; mark words left n w; sheet 300 200"


def desk_of(**said):
    """A desk with tables and tellings by names, each told by its first letters: ta.. and te.."""
    desk = Desk()
    for name, text in said.items():
        desk.say(f"{'table' if name.startswith('ta') else 'telling'} {name} {text}")
    return desk


class Desks(unittest.TestCase):
    def setUp(self):
        self.desk = desk_of(ta=TABLE, te=DOTS)

    def says(self, row, answer, desk=None):
        desk = desk or self.desk
        before = state(desk)
        self.assertEqual(desk.say(row), answer)
        if row.split(" ")[0] not in ("table", "telling", "drop"):
            self.assertEqual(state(desk), before)

    def refused(self, row, error, desk=None):
        desk = desk or self.desk
        before = state(desk)
        with self.assertRaises(error, msg=repr(row)) as caught:
            desk.say(row)
        self.assertIs(type(caught.exception), error)
        self.assertEqual(state(desk), before)
        return caught.exception


def state(desk):
    """What a desk says of all that it keeps."""
    names = desk.say("names")
    found = [names]
    for telling in names.split(" "):
        for table in names.split(" "):
            try:
                found.append(desk.say(f"draw {telling} {table}"))
            except MarkError as error:
                found.append(type(error).__name__)
    return found


class Answers(Desks):
    def test_names(self):
        desk = Desk()
        self.says("names", "-", desk)
        for row, names in ((f"table b {TABLE}", "b"), (f"telling c {DOTS}", "b c"), (f"telling b {DOTS}", "b c"), (f"table a {TABLE}", "a b c"),
                           (f"table ab {TABLE}", "a ab b c"), ("drop b", "a ab c"), ("drop a", "ab c"), ("drop c", "ab"), ("drop ab", "-")):
            self.says(row, "ok", desk)
            self.says("names", names, desk)

    def test_drop(self):
        # A table and a telling may have one name; both are gone.
        desk = desk_of(ta=TABLE, te=DOTS)
        desk.say(f"telling ta {DOTS}")
        self.says("drop ta", "ok", desk)
        self.refused("drop ta", NoName, desk)
        self.refused("draw te ta", NoName, desk)
        self.refused("draw ta ta", NoName, desk)
        self.says("names", "te", desk)

    def test_draw(self):
        # A frame, two axes with two ticks each; three dots and words; one row lost by the sieve, at two layers.
        self.says("draw te ta", "13 6 2")
        self.desk.say("telling none x n straight 0 9; left straight 0 9; mark dots left n; sheet 300 200")
        self.says("draw none ta", "7 0 4")

    def test_shape(self):
        for number, text in enumerate(("frame - 32 4 236 180", "axis x straight", "tick x 32 0", "tick x 268 236", "axis left straight", "tick left 184 0",
                                       "tick left 4 180", "dot left 42 174 3 0", "dot left 52 164 3 0", "dot left 52 164 3 0", "word left 42 174 a 0",
                                       "word left 52 164 b 0", "word left 52 164 b 0")):
            self.says(f"shape te ta {number}", text)

    def test_shape_of_each_kind(self):
        table = "n number, m number, w word, v word | 10, 20, a, p | 20, 30, a, q"
        for text, wanted in (("x n straight 0 236; left straight 0 180; mark lines left m; sheet 300 200", ["path left 42,164;52,154 0"]),
                             ("x n straight 0 236; left straight 0 180; mark bands left m n; sheet 300 200", ["band left 42,164,174;52,154,164 0"]),
                             ("x w order; left straight 0 180; mark bars left n; sheet 300 200", ["bar left 56 244 184 174 0", "bar left 56 244 184 164 0"]),
                             ("x w order; left straight 0 180; mark heaps left n; colour v order; sheet 330 200",
                              ["part left 56 244 184 174 0", "part left 56 244 174 154 1"]),
                             ("x w order; left straight 0 180; mark boxes left n; sheet 300 200", ["five left 56 244 174,171,169,166,164 0"])):
            desk = desk_of(ta=table, te=text)
            many = int(desk.say("draw te ta").split(" ")[0])
            shapes = [desk.say(f"shape te ta {at}") for at in range(many)]
            self.assertEqual([shape for shape in shapes if shape.split(" ")[0] in ("path", "band", "bar", "part", "five")], wanted)

    def test_shape_of_titles_words_and_keys(self):
        desk = desk_of(ta="n number, w word | 1, a | 10, b",
                       te="x n turns 10; left straight 0 9; mark dots left n; colour w order; size n straight; facet w order; sheet 600 200")
        many = int(desk.say("draw te ta").split(" ")[0])
        shapes = [desk.say(f"shape te ta {at}") for at in range(many)]
        self.assertEqual(shapes[:2], ["frame a 32 14 218 170", "axis x turns 10"])
        self.assertEqual(shapes[-6:], ["legend colour order", "key colour 572 8 a 0", "key colour 572 20 b 1", "legend size straight",
                                       "key size 572 32 1 2", "key size 572 44 10 20"])

    def test_behind(self):
        for number in range(7):
            self.says(f"behind te ta {number}", "-")
        for number, rows in ((7, "0"), (8, "1"), (9, "2"), (10, "0")):
            self.says(f"behind te ta {number}", rows)
        self.desk.say("telling line kinds w : s sum n t sum m; x s straight; left straight; mark lines left t; sheet 300 200")
        many = int(self.desk.say("draw line ta").split(" ")[0])
        self.says(f"behind line ta {many - 1}", "0,1,2,3")

    def test_why(self):
        self.says("why te ta 0", "shown; shown")
        self.says("why te ta 3", "sieve 0; sieve 0")
        self.desk.say("telling one x n straight 0 15; left straight 0 180; mark dots left m; sheet 300 200")
        for number, text in enumerate(("shown", "x outside", "x outside", "x nothing")):
            self.says(f"why one ta {number}", text)
        self.desk.say("telling two x m straight; left straight 15 180; right days; mark dots left n; mark dots right d; mark words left m w; sheet 400 200")
        for number, text in enumerate(("y outside; shown; y outside", "shown; y nothing; shown", "shown; y nothing; shown", "y nothing; shown; shown")):
            self.says(f"why two ta {number}", text)

    def test_read(self):
        self.says("read te ta 7", "x 19/2 21/2; y 19/2 21/2")
        self.says("read te ta 10", "x 19/2 21/2; y 19/2 21/2; other a")
        desk = desk_of(ta="n number, w word | 1, a | 9, b", te="x w order; left straight 0 90; mark bars left n; colour w order; sheet 330 200")
        at = int(desk.say("draw te ta").split(" ")[0]) - 5
        self.says(f"shape te ta {at}", "bar left 44 138 184 182 0", desk)
        self.says(f"read te ta {at}", "x a; y 3/4 5/4; colour a", desk)
        words = " ".join("abcdefghijklm")
        desk = desk_of(ta="n number, w word | 1, a", te=f"x n straight 0 9; left straight 0 9; mark dots left n; colour w order {words}; sheet 330 200")
        self.assertTrue(desk.say("read te ta 7").endswith("; colour a m"))

    def test_apart(self):
        self.says("apart te ta", "8,9; 11,12")
        self.desk.say("telling bars sieve there d; x w order; left straight; mark dots left m; sheet 300 200")
        self.says("apart bars ta", "-")

    def test_rules(self):
        self.says("rules te ta", "words 11 12")
        self.desk.say("telling bars x w order; left straight 1 31; mark bars left m; mark words left m w; sheet 300 200")
        marks = [at for at in range(int(self.desk.say("draw bars ta").split(" ")[0])) if self.desk.say(f"shape bars ta {at}").split(" ")[0] == "bar"]
        self.says("rules bars ta", f"nought {marks[0]} {marks[1]}; words {marks[0] + 5} {marks[0] + 6}")
        self.desk.say("telling none x n straight; left straight; mark dots left m; sheet 300 200")
        self.says("rules none ta", "-")

    def test_all_against_the_stages(self):
        chance = Chance(38)
        found = 0
        for turn in range(60):
            telling, table = chance.telling(), chance.table(6)
            try:
                paper = drawn(telling, table)
            except (NoSpace, NoPlan):
                continue
            desk = desk_of(ta=show_table(table).replace("\n", " | "), te=show_telling(telling))
            marks = [at for at, shape in enumerate(paper[0]) if not is_ground(shape)]
            self.assertEqual(desk.say("draw te ta"), f"{len(paper[0])} {len(marks)} {len(paper[2])}")
            for at, (shape, rows) in enumerate(zip(*paper[:2])):
                parts = []
                for part in shape:
                    if isinstance(part, list):
                        parts.append(";".join(",".join(map(str, one)) for one in part) if isinstance(part[0], tuple) else ",".join(map(str, part)))
                    else:
                        parts.append("-" if part == "" else str(part))
                self.assertEqual(desk.say(f"shape te ta {at}"), " ".join(parts))
                self.assertEqual(desk.say(f"behind te ta {at}"), ",".join(map(str, rows)) or "-")
                if at not in marks:
                    self.refused(f"read te ta {at}", NoRow, desk)
            for at, readings in read_back(paper[0]):
                texts = []
                for channel, what in readings:
                    texts.append(" ".join([channel] + (what[1] if what[0] == "among" else [show_number(what[1]), show_number(what[2])])))
                self.assertEqual(desk.say(f"read te ta {at}"), "; ".join(texts))
            for at in range(len(table[1])):
                reasons = {loss[1]: f"{loss[2]} {loss[3]}" for loss in paper[2] if loss[0] == at}
                self.assertEqual(desk.say(f"why te ta {at}"), "; ".join(reasons.get(layer, "shown") for layer in range(len(telling[3]))))
            self.assertEqual(desk.say("apart te ta"), "; ".join(",".join(map(str, one)) for one in not_apart(paper[0])) or "-")
            self.assertEqual(desk.say("rules te ta"), "; ".join(f"{rule} {one} {other}" for rule, one, other in sayings(telling, table)) or "-")
            found += 1
        self.assertGreater(found, 30)


class Kept(Desks):
    def test_names_told_anew(self):
        self.says("table ta n number, m number, w word", "ok")
        self.says("draw te ta", "7 0 0")
        self.says("telling te x n straight 0 9; left straight 0 9; mark dots left m; sheet 300 200 own", "ok")
        self.says("draw te ta", "7 0 0")
        self.says("names", "ta te")

    def test_one_name_for_both(self):
        self.says(f"table both {TABLE}", "ok")
        self.says(f"telling both {DOTS}", "ok")
        self.says("draw both both", "13 6 2")
        self.says("names", "both ta te")

    def test_what_is_refused_changes_nothing(self):
        self.refused("table ta n number | 1 | x", NoTable)
        self.refused("telling te x n straight", NoTelling)
        self.says("draw te ta", "13 6 2")
        self.refused("table new n number | x", NoTable)
        self.refused("telling new ", NoTelling)
        self.says("names", "ta te")
        self.refused("draw new ta", NoName)

    def test_two_desks_beside_one_another(self):
        other = Desk()
        self.says("names", "-", other)
        self.refused("draw te ta", NoName, other)
        self.says("table ta n number, m number, w word", "ok", other)
        self.says(f"telling te {DOTS}", "ok", other)
        self.says("draw te ta", "7 0 0", other)
        self.says("draw te ta", "13 6 2")
        self.says("drop ta", "ok")
        self.says("draw te ta", "7 0 0", other)

    def test_texts_of_tables(self):
        self.says("table one n number", "ok")
        self.says("table two n number | 1 | - | 1/2", "ok")
        self.desk.say("telling line x n straight; left straight; mark lines left n; sheet 300 200")
        self.says("why line two 1", "x nothing")
        for text, row in (("", None), (" ", None), ("n number |", None), ("n number | ", 0), ("n number |  | 1", 0), ("n number | 1 |", 0), ("n number | 1 | ", 1),
                          ("n number | 1 | 2 | x", 2), ("n number|1", None), ("n number | 1| 2", 0), ("n  number", None), ("n number ", None), (" n number", None),
                          (" | 1", None), ("n number | 1  | 2", 0)):
            self.assertEqual(self.refused(f"table three {text}", NoTable).row, row, text)

    def test_texts_of_tellings(self):
        for text in ("", " ", DOTS + " ", " " + DOTS, DOTS.replace("; ", ";"), DOTS.replace("; ", " | ")):
            self.assertIsNone(self.refused(f"telling three {text}", NoTelling).part)


class NoRows(Desks):
    def test_what_is_no_text(self):
        for thing in things():
            if not isinstance(thing, str):
                with self.assertRaises(NoRow):
                    self.desk.say(thing)

    def test_no_such_row(self):
        rows = ["", " ", "x", "Names", "name", "names ", " names", "names x", "drop", "drop ta te", "drop ta ", "draw", "draw te", "draw te ta ", "draw te ta 0",
                " draw te ta", "draw te ta  ", "shape te ta", "shape te ta 0 0", "shape te ta 0 ", "behind te ta", "why te ta", "read te ta", "apart te", "apart te ta 0",
                "rules te", "rules te ta 0", "rules te ta ", "table", "table ta", "telling", "telling te", "table ", "telling ", "tables ta x", "draw\tte ta",
                "draw te\tta", "names\t", "Draw te ta", "show te ta 0"]
        for row in rows:
            self.refused(row, NoRow)

    def test_line_feeds(self):
        for row in ("names\n", "\nnames", "draw te ta\n", "draw te\nta", "table ta n number\n1", "table ta n number | 1\n", "telling te\n", f"telling te {DOTS}\n",
                    "shape te ta 0\n", "drop ta\n", "\n"):
            self.refused(row, NoRow)

    def test_numbers(self):
        for head in ("shape", "behind", "read", "why"):
            for number in ("", "00", "01", "007", "0000000", "1000000", "1234567", "-1", "+1", "-0", "1.0", "1/1", "a", "1a", "x1", "1_0", "1,2", "\t1", "0x1"):
                self.refused(f"{head} te ta {number}", NoRow)
        for number in ("0", "1", "10"):
            self.desk.say(f"shape te ta {number}")

    def test_shapes_and_rows_that_there_are_not(self):
        self.says("behind te ta 12", "2")
        for number in (13, 14, 100, 999999):
            for head in ("shape", "behind", "read"):
                self.refused(f"{head} te ta {number}", NoRow)
        for number in range(7):
            self.refused(f"read te ta {number}", NoRow)
        self.says("why te ta 3", "sieve 0; sieve 0")
        for number in (4, 5, 999999):
            self.refused(f"why te ta {number}", NoRow)


class NoNames(Desks):
    def test_names_that_are_no_words(self):
        for name in ("A", "a1", "abcdefghi", "-", "ta,", "Ta", "tab\tle", "1"):
            for row in (f"drop {name}", f"draw {name} ta", f"draw te {name}", f"shape {name} ta 0", f"apart te {name}", f"table {name} {TABLE}", f"telling {name} {DOTS}"):
                self.refused(row, NoName)

    def test_words_without_signs(self):
        # Where two blanks stand, or one at the end, there is a word without signs.
        for row in ("drop ", "draw  ta", "draw te ", "draw  ", "shape  ta 0", "shape te  0", "apart te ", "rules  ", f"table  {TABLE}", f"telling  {DOTS}", "table  ",
                    "telling  x"):
            self.refused(row, NoName)

    def test_names_by_which_nothing_stands(self):
        for row in ("drop x", "draw x ta", "draw te x", "draw ta te", "draw ta ta", "draw te te", "shape te te 0", "behind ta ta 0", "why x ta 0", "read te x 0",
                    "apart x ta", "rules te x"):
            self.refused(row, NoName)


class Order(Desks):
    """NoRow of the form ahead of NoName, ahead of what the stages refuse, ahead of NoRow of what there isn't."""

    def test_the_form_comes_first(self):
        for row in ("shape X Y 01", "shape x y 1000000", "draw X Y Z", "read  ta ", "drop X Y", "why x y -1"):
            self.refused(row, NoRow)

    def test_then_names(self):
        self.desk.say("telling small x n straight; left straight; mark dots left m; sheet 60 60")
        for row in ("shape small x 999999", "why x ta 999999", "read small X 0", "table X x", "telling X x", "table  "):
            self.refused(row, NoName)

    def test_then_the_stages(self):
        self.desk.say("telling space x n straight; left straight; mark dots left m; sheet 60 60")
        self.desk.say("telling plan sieve there z; x n straight; left straight; mark dots left m; sheet 300 200")
        self.desk.say("telling column x z straight; left straight; mark dots left m; sheet 300 200")
        for name, error in (("space", NoSpace), ("plan", NoPlan), ("column", NoTelling)):
            for row in (f"draw {name} ta", f"shape {name} ta 999999", f"behind {name} ta 999999", f"why {name} ta 999999", f"read {name} ta 999999",
                        f"apart {name} ta", f"rules {name} ta"):
                self.refused(row, error)


if __name__ == "__main__":
    unittest.main()
