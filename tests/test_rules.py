"""Points 33 and 34: rules of reading, and the sayings by which they are broken."""

import copy
import unittest

from chance import Chance
from markscale.errors import NoPlan, NoSpace, NoTable, NoTelling
from markscale.rules import is_saying, sayings
from markscale.tellingtexts import read_telling
from plainrules import RULES, PlainRules
from sheets import Sheets, marks_of, table_of
from things import Agreeing, kept, things, words_many

TOWNS = "n number, m number, w word, v word"


class Rules(Sheets):
    def setting(self, telling, table):
        """A telling and a table as they are, each of a text too."""
        return (read_telling(telling) if isinstance(telling, str) else telling, table_of(table) if isinstance(table, str) else table)

    def said(self, rule, telling, table):
        """The places among the marks of the first saying of a rule, or None; all that is told must be so."""
        telling, table = self.setting(telling, table)
        marks = [at for at, _, _ in marks_of(self.drawn(telling, table))]
        found = None
        told = kept(self, sayings, telling, table)
        self.assertEqual([RULES.index(saying[0]) for saying in told], sorted({RULES.index(saying[0]) for saying in told}))
        for saying in told:
            self.assertIs(kept(self, is_saying, telling, table, saying), True)
            if saying[0] == rule:
                found = (marks.index(saying[1]), marks.index(saying[2]))
        return found

    def are_so(self, rule, telling, table):
        """All pairs of marks, by their places among these, that a rule is broken by."""
        telling, table = self.setting(telling, table)
        marks = [at for at, _, _ in marks_of(self.drawn(telling, table))]
        return [(one, other) for one in range(len(marks)) for other in range(len(marks)) if is_saying(telling, table, (rule, marks[one], marks[other]))]

    def check(self, rule, telling, table, pairs):
        self.assertEqual(self.are_so(rule, telling, table), pairs)
        self.assertEqual(self.said(rule, telling, table), pairs[0] if pairs else None)


class Nought(Rules):
    def bars(self, wish, *cells):
        return (f"x w order; left {wish}; mark bars left n; sheet 400 300", " | ".join([TOWNS] + [f"{cell}, 1, a, x" for cell in cells]))

    def test_bars_from_nought(self):
        for wish in ("straight", "straight 0 100", "straight -7 100", "broken 0 20 50 60"):
            self.check("nought", *self.bars(wish, "1", "5", "10", "1/3"), [])
        self.check("nought", *self.bars("straight", "-5", "5", "10", "-1"), [])
        self.check("nought", *self.bars("broken -2 20 50 60", "-2", "5", "20"), [])

    def test_bars_that_begin_elsewhere(self):
        # Of lengths 1, 2, 9 and values 2, 3, 10.
        self.check("nought", *self.bars("straight 1 11", "2", "3", "10"), [(0, 1), (0, 2), (1, 2)])
        # Alike values have alike lengths wherever the base is.
        self.check("nought", *self.bars("straight 1 11", "2", "2"), [])
        self.check("nought", *self.bars("straight 1 11", "2", "2", "3"), [(0, 2), (1, 2)])
        self.check("nought", *self.bars("straight 1 11", "2"), [])

    def test_values_of_nought_count_for_nothing(self):
        self.check("nought", *self.bars("straight -5 -1", "-2", "-3", "-2"), [(0, 1), (1, 2)])
        self.check("nought", *self.bars("straight -5 100", "0", "5", "0", "10"), [])
        # On a scale that begins at 1 nought has no place: the item has no bar.
        self.check("nought", *self.bars("straight 1 11", "0", "3"), [])

    def test_what_all_but_is(self):
        # Exactly from nought, and from just above it.
        self.check("nought", *self.bars("straight 0 100", "1", "99"), [])
        self.check("nought", *self.bars("straight 1/60 100", "1", "99"), [(0, 1)])
        self.check("nought", *self.bars("straight 1/60 100", "99", "1"), [(0, 1)])

    def test_turns_and_broken(self):
        # The lowest power is the base: lengths 0, 1, 2 of values 10, 100, 1000.
        self.check("nought", *self.bars("turns 10", "10", "100", "1000"), [(0, 1), (0, 2), (1, 2)])
        self.check("nought", *self.bars("turns 10", "10", "10"), [])
        self.check("nought", *self.bars("turns 10", "2", "10", "11/2"), [(0, 1), (0, 2), (1, 2)])
        self.check("nought", *self.bars("broken 0 20 50 60", "10", "20", "50"), [(0, 2), (1, 2)])

    def test_one_facet_and_side(self):
        table = f"{TOWNS} | 2, 2, a, x | 3, 3, a, y | 5, 5, a, y"
        head = "x w order; left straight 1 11; mark bars left n; facet v order; sheet 600 300"
        self.check("nought", head, table, [(1, 2)])
        head = "x w order; left straight 1 11; right straight 1 11; mark bars left n; mark bars right m; sheet 600 300"
        # Marks 0 to 2 are the left ones, 3 to 5 the right ones.
        self.check("nought", head, table, [(0, 1), (0, 2), (1, 2), (3, 4), (3, 5), (4, 5)])
        # Two layers of one side go together.
        head = "x w order; left straight 1 11; mark bars left n; mark bars left m; sheet 600 300"
        self.assertEqual(self.said("nought", head, table), (0, 1))
        self.assertIn((0, 4), self.are_so("nought", head, table))
        self.assertNotIn((0, 3), self.are_so("nought", head, table))

    def heaps(self, wish, *rows):
        return (f"x w order; left {wish}; mark heaps left n; colour v order; sheet 400 300", " | ".join([TOWNS] + list(rows)))

    def test_parts(self):
        rows = ("2, 1, a, x", "3, 1, a, y", "4, 1, b, x", "0, 1, b, y")
        self.check("nought", *self.heaps("straight", *rows), [])
        # On a scale from 1 on the lowest parts are short of 1: lengths 1, 3, 3; the part of 0 counts for nothing.
        self.check("nought", *self.heaps("straight 1 11", *rows), [(0, 1), (0, 2), (1, 2)])
        self.check("nought", *self.heaps("turns 10", "10, 1, a, x", "90, 1, a, y", "10, 1, b, x"), [(0, 1), (1, 2)])

    def test_bars_beside_parts(self):
        head = "x w order; left straight 1 11; mark bars left n; mark heaps left n; colour v order; sheet 400 300"
        self.check("nought", head, f"{TOWNS} | 2, 1, a, x", [])


class Twice(Rules):
    def test_one_colour_of_two_ranks(self):
        words = words_many(26)
        table = ([("n", "number"), ("w", "word")], [((at, 1), word) for at, word in enumerate(words)])
        head = "x n straight; left straight; mark dots left n; colour w order; sheet 300 400"
        self.check("twice", head, table, sorted([(at, at + 12) for at in range(14)] + [(0, 24), (1, 25)]))
        # Wherever they stand: in unlike facets, at unlike sides, as unlike marks.
        rows = [((1, 1), "b", words[0]), ((1, 1), "a", words[12])]
        table = ([("n", "number"), ("f", "word"), ("w", "word")], rows)
        told = " ".join(words[:13])
        head = f"x n straight; left straight; mark lines left n; colour w order {told}; facet f order; sheet 600 400"
        self.check("twice", head, table, [(0, 1)])
        head = f"x f order; left straight; right turns 2; mark boxes left n; mark dots right n; colour w order {told}; sheet 600 400"
        self.check("twice", head, table, [(0, 1), (0, 3), (1, 2), (2, 3)])

    def test_twelve_words_have_colours_of_their_own(self):
        table = ([("n", "number"), ("w", "word")], [((at, 1), word) for at, word in enumerate(words_many(12))] + [((5, 1), words_many(1)[0])])
        self.check("twice", "x n straight; left straight; mark dots left n; colour w order; sheet 300 400", table, [])

    def test_straight_colours_have_one_rank(self):
        head = "x n straight; left straight; mark dots left n; colour m straight; sheet 300 400"
        self.check("twice", head, f"{TOWNS} | 1, 1, a, x | 2, 1, a, x | 3, 1000, a, x | 3, 999999, a, x", [])

    def test_two_sides(self):
        table = f"{TOWNS} | 2, 4, a, x | 3, 3, b, x | 4, 2, c, x"
        for mark in ("dots left n", "bars left n", "words left n w"):
            for other in ("dots right m", "bars right m", "words right m w"):
                # The same scales: no value has two places.
                head = f"x w order; left straight 0 10; right straight 0 10; mark {mark}; mark {other}; sheet 400 300"
                self.check("twice", head, table, [])
                # The right scale is half the left one: 2 and 4, 3 and 3, 4 and 2 have unlike places, and 2 by 2, 4 by 4 too.
                head = f"x w order; left straight 0 10; right straight 0 20; mark {mark}; mark {other}; sheet 400 300"
                self.check("twice", head, table, [(0, 3), (0, 5), (1, 4), (2, 3)])

    def test_what_all_but_is(self):
        # 2 of 10 and 4 of 20 stand at one place with unlike values; 2 of 10 and 401/100 of 20 do not.
        head = "x w order; left straight 0 10; right straight 0 20; mark dots left n; mark dots right m; sheet 400 300"
        self.check("twice", head, f"{TOWNS} | 2, 4, a, x", [(0, 1)])
        self.check("twice", head, f"{TOWNS} | 2, 201/50, a, x", [])
        # Nought is at one place on both.
        self.check("twice", head, f"{TOWNS} | 0, 0, a, x", [])

    def test_marks_and_columns_that_do_not_count(self):
        table = "n number, m number, w word, d day | 2, 2, a, 2024-01-01 | 3, 3, b, 2024-01-02"
        for mark in ("boxes left n", "heaps left n"):
            colour = "; colour w order" if "heaps" in mark else ""
            head = f"x w order; left straight 0 10; right straight 0 20; mark {mark}; mark dots right m{colour}; sheet 400 300"
            self.check("twice", head, table, [])
        for mark in ("lines left n", "bands left n m"):
            head = f"x m straight; left straight 0 10; right straight 0 20; mark {mark}; mark dots right m; sheet 400 300"
            self.check("twice", head, table, [])
        for left, right, columns in (("days", "straight", "d m"), ("order", "order b a", "w w"), ("straight", "order", "n w")):
            one, other = columns.split()
            head = f"x w order; left {left}; right {right}; mark dots left {one}; mark dots right {other}; sheet 400 300"
            self.check("twice", head, table, [])

    def test_one_facet(self):
        table = f"{TOWNS} | 2, 9, a, x | 9, 2, a, y"
        head = "x w order; left straight 0 10; right straight 0 20; mark dots left n; mark dots right m; facet v order; sheet 600 300"
        # 2 at the left of the one facet and 2 at the right of the other one are in unlike frames.
        self.check("twice", head, table, [])


class Heaps(Rules):
    ROWS = f"{TOWNS}, f word | 1, 1, a, x, p | 3, 1, a, x, p | 4, 1, a, y, p | 5, 1, b, x, p | 7, 1, c, y, q | 7, 1, c, x, q"

    def head(self, word, names="w v", more="", facet=""):
        return f"{more}kinds {names} : s {word} n; x w order; left straight; mark heaps left s; colour v order{facet}; sheet 600 300"

    def test_by_each_make(self):
        # Of a: x makes of 1 and 3, y of 4, and all of 1, 3 and 4.
        for word in ("mean", "middle", "least", "greatest"):
            self.check("heaps", self.head(word), self.ROWS, [(0, 1), (3, 4)])
        for word in ("sum", "count"):
            self.check("heaps", self.head(word), self.ROWS, [])

    def test_columns_of_kinds_in_another_order(self):
        for names in ("w v", "v w"):
            self.check("heaps", self.head("mean", names), self.ROWS, [(0, 1), (3, 4)])
        for names in ("w v f", "f w v", "v f w"):
            self.check("heaps", self.head("mean", names, "", "; facet f order"), self.ROWS, [(0, 1), (3, 4)])
            # A column too many, or one that lacks.
            self.check("heaps", self.head("mean", names), self.ROWS, [])

    def test_a_facet_by_a_column_of_colour_or_x(self):
        self.check("heaps", self.head("mean", "w v", "", "; facet v order"), self.ROWS, [])
        self.check("heaps", self.head("mean", "w v", "", "; facet w order"), self.ROWS, [(0, 1), (3, 4)])

    def test_each_facet_by_itself(self):
        # In each facet the greatest of the word is what its parts are together, 4 and 9.
        rows = f"{TOWNS}, f word | 4, 1, a, x, p | 0, 1, a, y, p | 9, 1, a, x, q | 0, 1, a, y, q"
        self.check("heaps", self.head("greatest", "w v f", "", "; facet f order"), rows, [])
        self.check("heaps", self.head("greatest", "w v f", "", "; facet f order"), f"{rows} | 1, 1, a, z, q", [(2, 3)])
        self.check("heaps", self.head("greatest", "w v f", "", "; facet f order"), f"{rows} | 1, 1, a, z, p", [(0, 1)])

    def test_one_column_for_x_and_colour(self):
        head = "kinds w : s mean n; x w order; left straight; mark heaps left s; colour w order; sheet 600 300"
        self.check("heaps", head, self.ROWS, [])

    def test_where_the_whole_is_what_the_parts_are(self):
        # The mean of 1 and -1 is 0, and of 0, 1 and -1 too; 0 and 0 are 0 together.
        rows = f"{TOWNS} | 1, 1, a, x | -1, 1, a, x | 0, 1, a, y"
        self.check("heaps", self.head("mean"), rows, [])
        self.check("heaps", self.head("mean"), f"{rows} | 1, 1, a, y", [(0, 1)])
        # The greatest of 4 and 0 is 4, which 4 and 0 are together.
        rows = f"{TOWNS} | 4, 1, a, x | 0, 1, a, y"
        self.check("heaps", self.head("greatest"), rows, [])
        self.check("heaps", self.head("least"), rows, [(0, 1)])

    def test_rows_without_a_colour_count_for_the_whole(self):
        # Parts of 4 and 0 together are 4; the greatest is 9 with the row that has no colour.
        rows = f"{TOWNS} | 4, 1, a, x | 0, 1, a, y"
        self.check("heaps", self.head("greatest"), f"{rows} | 9, 1, a, -", [(0, 1)])
        self.check("heaps", self.head("greatest"), f"{rows} | 3, 1, a, -", [])

    def test_steps_ahead(self):
        self.check("heaps", self.head("mean", "w v", "sieve not same v x; "), self.ROWS, [])
        self.check("heaps", self.head("greatest", "w v", "sieve under n 4; "), f"{TOWNS} | 3, 1, a, x | 0, 1, a, y | 9, 1, a, y", [])
        self.check("heaps", self.head("greatest"), f"{TOWNS} | 3, 1, a, x | 0, 1, a, y | 9, 1, a, y", [(0, 1)])

    def test_the_last_step(self):
        behind = "kinds w v : s mean n; sieve there s; x w order; left straight; mark heaps left s; colour v order; sheet 600 300"
        self.check("heaps", behind, self.ROWS, [])
        self.check("heaps", "x w order; left straight; mark heaps left n; colour v order; sheet 600 300", self.ROWS, [])

    def test_the_layers_column(self):
        head = "kinds w v : s sum n t mean n; x w order; left straight; mark heaps left {}; colour v order; sheet 600 300"
        self.check("heaps", head.format("s"), self.ROWS, [])
        self.check("heaps", head.format("t"), self.ROWS, [(0, 1), (3, 4)])
        both = head.format("s; mark heaps left t")
        self.check("heaps", both, self.ROWS, [(5, 6), (8, 9)])
        bars = "kinds w v : t mean n; x w order; left straight; mark bars left t; colour v order; sheet 600 300"
        self.check("heaps", bars, self.ROWS, [])

    def test_the_first_two_of_three(self):
        rows = f"{TOWNS} | 1, 1, a, x | 4, 1, a, y | 5, 1, a, z"
        self.check("heaps", self.head("mean"), rows, [(0, 1)])


class Alike(Rules):
    ROWS = f"{TOWNS} | 2, 1, a, x | 8, 1, a, x | 2, 1, a, y | 4, 1, a, y"

    def test_own(self):
        for mark in ("dots left n", "words left n w"):
            head = f"x w order; left straight; mark {mark}; facet v order; sheet 600 300"
            # From 2 to 8, and from 2 to 4: 2 is at the bottom of both, 8 and 4 at the top.
            self.check("alike", f"{head} own", self.ROWS, [(1, 3)])
            self.check("alike", head, self.ROWS, [])
        head = "x w order; left straight; mark bars left n; facet v order; sheet 600 300 own"
        # From 0 to 8, and from 0 to 4: 2 has two places, and so 8 and 4 have one; nothing else has.
        self.check("alike", head, self.ROWS, [(0, 2), (1, 3)])

    def test_own_that_are_the_same(self):
        self.check("alike", "x w order; left straight 0 9; mark dots left n; facet v order; sheet 600 300 own", self.ROWS, [])
        self.check("alike", "x w order; left straight; mark dots left n; sheet 600 300 own", self.ROWS, [])

    def test_one_side(self):
        table = f"{TOWNS} | 2, 2, a, x | 8, 2, a, x | 2, 3, a, y | 4, 8, a, y"
        head = "x w order; left straight; right straight 0 10; mark dots left n; mark dots right m; facet v order; sheet 600 300 own"
        # Left ones by own scales, right ones by told ends: none of these, and none of a left with a right one.
        self.check("alike", head, table, [(1, 5)])

    def test_marks_and_columns_that_do_not_count(self):
        for mark in ("boxes left n", "heaps left n"):
            colour = "; colour w order" if "heaps" in mark else ""
            self.check("alike", f"x w order; left straight; mark {mark}{colour}; facet v order; sheet 600 300 own", self.ROWS, [])
        for mark in ("lines left n", "bands left n m"):
            self.check("alike", f"x m straight; left straight; mark {mark}; facet v order; sheet 600 300 own", self.ROWS, [])
        self.check("alike", "x w order; left order; mark dots left v; facet v order; sheet 600 300 own", self.ROWS, [])
        days = "n number, d day, w word, v word | 2, 2024-01-01, a, x | 8, 2024-03-01, a, x | 2, 2024-01-01, a, y | 4, 2024-01-02, a, y"
        self.check("alike", "x w order; left days; mark dots left d; facet v order; sheet 600 300 own", days, [])

    def test_layers_go_together(self):
        table = f"{TOWNS} | 2, 8, a, x | 2, 4, a, y"
        head = "x w order; left straight; mark dots left n; mark words left m w; facet v order; sheet 600 300 own"
        # Marks 0 and 1 are the one facet's, 2 and 3 the other one's.
        self.check("alike", head, table, [(1, 3)])


class Words(Rules):
    HEAD = "x n straight 0 306; left straight 0 200; mark words left m w; sheet 370 220"

    def check_words(self, pairs, *rows):
        """The sayings of words at these places: the frame is as wide and as high as the scales go."""
        table = " | ".join([TOWNS] + list(rows))
        self.assertEqual(self.drawn(self.HEAD, table)[0][0], ("frame", "", 32, 4, 306, 200))
        self.check("words", self.HEAD, table, pairs)

    def test_that_touch_and_that_meet(self):
        # Three and five signs: 9 and 15 places to either side.
        for x, meet in ((124, False), (123, True), (122, True), (100, True), (77, True), (76, False), (75, False)):
            self.check_words([(0, 1)] if meet else [], "100, 50, abc, x", f"{x}, 50, abcde, x")
        for y, meet in ((61, False), (60, False), (59, True), (50, True), (41, True), (40, False)):
            self.check_words([(0, 1)] if meet else [], "100, 50, abc, x", f"100, {y}, abcde, x")
        self.check_words([], "100, 50, abc, x", "124, 59, abcde, x")
        self.check_words([(0, 1)], "100, 50, abc, x", "123, 59, abcde, x")
        self.check_words([], "100, 50, a, x", "106, 50, a, x")
        self.check_words([(0, 1)], "100, 50, a, x", "105, 50, a, x")

    def test_the_first_two(self):
        self.check_words([(0, 3), (1, 2), (1, 3)], "100, 50, abc, x", "112, 55, b, x", "115, 62, abc, x", "107, 50, a, x")

    def test_one_facet(self):
        table = f"{TOWNS} | 1, 1, a, x | 1, 1, a, y | 1, 1, a, x"
        self.check("words", "x n straight; left straight; mark words left m w; facet v order; sheet 600 300", table, [(0, 1)])

    def test_unlike_sides_and_layers(self):
        table = f"{TOWNS} | 1, 1, a, x"
        self.check("words", "x n straight 0 2; left straight 0 2; right straight 0 4; mark words left m w; mark words right m v; mark dots left m; sheet 300 300",
                   table, [])
        self.check("words", "x n straight 0 2; left straight 0 2; right straight 0 2; mark words left m w; mark words right m v; sheet 300 300", table, [(0, 1)])
        self.check("words", "x n straight 0 2; left straight 0 2; mark dots left m; mark words left m w; mark words left m v; sheet 300 300", table, [(1, 2)])


class Told(Rules):
    def test_in_the_order_of_rules(self):
        words = words_many(13)
        rows = [((at, 1), (at, 1), word, "x") for at, word in enumerate(words)] + [((3, 1), (9, 1), words[0], "y")] * 2
        table = ([("n", "number"), ("m", "number"), ("w", "word"), ("v", "word")], rows)
        head = "x v order; left straight; mark bars left n; mark words left n w; colour w order; facet v order; sheet 600 600 own"
        self.assertEqual([saying[0] for saying in sayings(read_telling(head), table)], ["twice", "alike", "words"])
        head = "x v order; left turns 2; mark bars left n; mark words left n w; colour w order; facet v order; sheet 600 600 own"
        self.assertEqual([saying[0] for saying in sayings(read_telling(head), table)], ["nought", "twice", "alike", "words"])

    def test_none(self):
        self.assertEqual(sayings(*self.setting("x n straight; left straight; mark dots left m; sheet 300 200", f"{TOWNS} | 1, 2, a, x")), [])
        self.assertEqual(sayings(*self.setting("x n straight; left straight; mark dots left m; sheet 300 200", TOWNS)), [])

    def test_what_is_told_is_the_askers_own(self):
        setting = self.setting("x w order; left straight 1 11; mark bars left n; sheet 400 300", f"{TOWNS} | 2, 1, a, x | 3, 1, a, x")
        first = sayings(*setting)
        before = copy.deepcopy(first)
        first.clear()
        self.assertEqual(sayings(*setting), before)

    def test_by_plain_reading(self):
        chance = Chance(34)
        found = dict.fromkeys(RULES, 0)
        for turn in range(600):
            telling = chance.telling() if turn % 2 else chance.kinds_telling()
            table = chance.table(chance.pick((3, 9, 20)))
            try:
                plain = PlainRules(telling, table)
            except (NoSpace, NoPlan):
                continue
            self.assertEqual(kept(self, sayings, telling, table), plain.first())
            for saying in plain.first():
                found[saying[0]] += 1
        self.assertTrue(all(found.values()), found)


class Anything(Rules):
    SETTING = ("x w order; left straight 1 11; mark bars left n; sheet 400 300", f"{TOWNS} | 2, 1, a, x | 3, 1, a, x | 4, 1, a, x")

    def test_of_anything(self):
        setting = self.setting(*self.SETTING)
        one, other, third = [at for at, _, _ in marks_of(self.drawn(*setting))]
        self.assertIs(is_saying(*setting, ("nought", one, other)), True)
        self.assertIs(is_saying(*setting, ("nought", other, third)), True)
        self.assertIs(is_saying(*setting, ("nought", other, one)), False)
        for thing in things() + [("nought", one, one), ("nought", one), ("nought", one, other, third), ["nought", one, other], ("twice", one, other),
                                 ("Nought", one, other), ("nought", 0, one), ("nought", one, 10 ** 30), ("nought", -1, one), ("nought", None, None),
                                 ("nought", str(one), str(other)), (None, one, other), ("heaps", one, other), ("alike", one, other), ("words", one, other),
                                 ("", one, other)]:
            self.assertIs(is_saying(*setting, thing), False)
        for thing in things():
            for at in range(3):
                parts = ["nought", one, other]
                parts[at] = thing
                self.assertIs(is_saying(*setting, tuple(parts)), False)

    def test_rules_that_there_are_not(self):
        setting = self.setting("x w order; left straight; mark words left n w; sheet 400 300", f"{TOWNS} | 2, 1, a, x | 2, 1, a, x")
        one, other = [at for at, _, _ in marks_of(self.drawn(*setting))]
        self.assertIs(is_saying(*setting, ("words", one, other)), True)
        for rule in ("", "word", "Words", "words ", "overlap", None, 4, Agreeing()):
            self.assertIs(is_saying(*setting, (rule, one, other)), False)

    def test_truths_are_no_numbers(self):
        # A frame's shape is number 0 and its axis number 1; neither is a mark, and a truth is no number.
        setting = self.setting(*self.SETTING)
        self.assertIs(is_saying(*setting, ("nought", False, True)), False)

    def test_refused_as_drawn_whatever_the_thing_is(self):
        telling, table = self.setting(*self.SETTING)
        for thing in (("nought", 9, 10), None, 5, "nought"):
            for error, bad in ((NoTable, (telling, None)), (NoTelling, (None, table)), (NoPlan, (([7],) + telling[1:], table)),
                               (NoTelling, ((telling[0], ("z", ("order",))) + telling[2:], table)), (NoSpace, (telling[:7] + ((60, 60, False),), table)),
                               (NoTable, (None, None))):
                with self.assertRaises(error):
                    is_saying(*bad, thing)
                with self.assertRaises(error):
                    sayings(*bad)


if __name__ == "__main__":
    unittest.main()
