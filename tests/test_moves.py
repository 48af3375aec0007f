"""Points 36 and 3 (g): what moves when a row is changed."""

import copy
import unittest

from chance import COLUMNS, Chance
from fieldwork import emptied
from markscale.drawing import drawn
from markscale.errors import NoPlan, NoSpace, NoTable, NoTelling
from markscale.moves import moved
from markscale.plans import planned
from markscale.tellingtexts import read_telling
from plaindraw import Plain
from sheets import is_ground, table_of
from things import Agreeing, kept, things

TOWNS = "n number, m number, w word, v word"
HEAD = "x n straight 0 236; left straight 0 180; mark dots left m; sheet 300 200"
# Each place of the frame is one of the scales: x is 32 more than n, y is 184 less m.
ROWS = f"{TOWNS} | 10, 10, a, x | 20, 20, b, x | 20, 20, b, x | 30, -, a, y"


def dot(n, m, colour=0):
    return ("dot", "left", 32 + n, 184 - m, 3, colour)


def framed(paper):
    """The tuples (frame's number, mark) of a drawing, and its shapes that are no marks."""
    marks, ground, at = [], [], -1
    for shape in paper[0]:
        at += shape[0] == "frame"
        if is_ground(shape):
            ground.append(shape)
        else:
            marks.append((at, shape))
    return marks, ground


def plain_lacking(mine, yours):
    """The marks that have as many alike ones ahead as the others have in all, or more."""
    return [mark for at, mark in enumerate(mine) if mine[:at].count(mark) >= yours.count(mark)]


class Moves(unittest.TestCase):
    def check(self, telling, table, number, row, told):
        self.assertEqual(kept(self, moved, read_telling(telling), table_of(table), number, row), told)

    def test_gone_and_come(self):
        self.check(HEAD, ROWS, 0, ((11, 1), (10, 1), "a", "x"), (False, [(0, dot(10, 10))], [(0, dot(11, 10))]))
        self.check(HEAD, ROWS, 0, ((10, 1), None, "a", "x"), (False, [(0, dot(10, 10))], []))
        self.check(HEAD, ROWS, 3, ((30, 1), (30, 1), "a", "x"), (False, [], [(0, dot(30, 30))]))

    def test_nothing(self):
        table = table_of(ROWS)
        for number, row in enumerate(table[1]):
            self.check(HEAD, ROWS, number, row, (False, [], []))
        # What no mark shows, or what is rounded away.
        self.check(HEAD, ROWS, 0, ((10, 1), (10, 1), "z", None), (False, [], []))
        self.check(HEAD, ROWS, 0, ((51, 5), (99, 10), "a", "x"), (False, [], []))

    def test_as_often(self):
        self.check(HEAD, ROWS, 1, ((10, 1), (10, 1), "a", "x"), (False, [(0, dot(20, 20))], [(0, dot(10, 10))]))
        self.check(HEAD, ROWS, 2, ((10, 1), (10, 1), "a", "x"), (False, [(0, dot(20, 20))], [(0, dot(10, 10))]))
        # Two rows change places, so to speak: what is drawn is drawn as often.
        line = "x n straight 0 236; left straight 0 180; mark lines left m; mark dots left m; sheet 300 200"
        ahead = ("path", "left", [(42, 174), (52, 164), (52, 164)], 0)
        behind = ("path", "left", [(42, 174), (42, 174), (52, 164)], 0)
        self.check(line, ROWS, 1, ((10, 1), (10, 1), "a", "x"), (False, [(0, ahead), (0, dot(20, 20))], [(0, behind), (0, dot(10, 10))]))

    def test_alike_marks(self):
        # Of alike ones the first are held to stay: the last one is gone, behind whatever stands between.
        table = f"{TOWNS} | 10, 10, a, x | 50, 50, a, x | 10, 10, a, x | 60, 60, a, x"
        self.check(HEAD, table, 0, ((70, 1), (70, 1), "a", "x"), (False, [(0, dot(10, 10))], [(0, dot(70, 70))]))
        kinds = "kinds w : s greatest n t greatest m; x s straight 0 236; left straight 0 180; mark dots left t; sheet 300 200"
        table = f"{TOWNS} | 10, 10, a, x | 20, 20, b, x | 10, 10, c, x"
        self.check(kinds, table, 2, ((20, 1), (20, 1), "a", "x"), (False, [(0, dot(10, 10)), (0, dot(10, 10))], [(0, dot(20, 20))]))
        table = f"{TOWNS} | 10, 10, a, x | 20, 20, b, x | 10, 10, c, x | 30, 30, d, x"
        self.check(kinds, table, 0, ((30, 1), (30, 1), "b", "x"), (False, [(0, dot(20, 20)), (0, dot(10, 10))], [(0, dot(30, 30))]))

    def test_frames_are_counted(self):
        head = "x n straight 0 86; left straight 0 170; mark dots left m; facet v order x y; sheet 300 200"
        table = f"{TOWNS} | 10, 10, a, x | 20, 20, a, y"
        one, other = ("dot", "left", 42, 174, 3, 0), ("dot", "left", 192, 174, 3, 0)
        self.check(head, table, 0, ((10, 1), (10, 1), "a", "y"), (False, [(0, one)], [(1, other)]))

    def test_ground(self):
        free = "x n straight; left straight 0 180; mark dots left m; sheet 300 200"
        told = moved(read_telling(free), table_of(ROWS), 0, ((90, 1), (10, 1), "a", "x"))
        self.assertIs(told[0], True)
        # The order of the keys is another one, and with it the colours.
        coloured = "x n straight 0 230; left straight 0 180; mark dots left m; colour w order; sheet 330 200"
        table = table_of(f"{TOWNS} | 10, 10, a, x | 20, 20, b, x")
        self.assertEqual(moved(read_telling(coloured), table, 0, ((10, 1), (10, 1), "b", "x"))[0], True)
        self.assertIs(moved(read_telling(coloured), table_of(ROWS), 2, ((10, 1), (10, 1), "b", "x"))[0], False)

    def test_by_plain_reading(self):
        chance = Chance(36)
        found = 0
        for turn in range(300):
            telling = chance.telling() if turn % 4 else chance.kinds_telling()
            table = (list(COLUMNS), [chance.row() for _ in range(chance.random.randint(1, 9))])
            number, row = chance.random.randrange(len(table[1])), chance.row()
            other = (table[0], table[1][:number] + [row] + table[1][number + 1:])
            try:
                ahead, behind = drawn(telling, table), drawn(telling, other)
            except (NoSpace, NoPlan):
                continue
            ground, gone, come = kept(self, moved, telling, table, number, row)
            (marks, shapes), (others, other_shapes) = framed(ahead), framed(behind)
            self.assertIs(ground, shapes != other_shapes)
            self.assertEqual(gone, plain_lacking(marks, others))
            self.assertEqual(come, plain_lacking(others, marks))
            found += 1
        self.assertGreater(found, 150)


class Promise(unittest.TestCase):
    """Point 3 (g), of random rows changed where no ground is another one."""

    def laid(self, telling, table):
        plain = Plain(telling, table)
        plain.paper(plain.frames(), plain.spots())
        return plain

    def kinds(self, telling, table):
        """The dict of what each row of a table has in the columns of kinds, of those that come to that step."""
        step = [step[0] for step in telling[0]].index("kinds")
        columns, rows, sources, _ = planned(telling[0][:step], table)
        names = [column[0] for column in columns]
        return {number: tuple(row[names.index(name)] for name in telling[0][step][1]) for row, numbers in zip(rows, sources) for number in numbers}

    def test_each_mark_that_comes_or_goes(self):
        chance = Chance(37)
        found = moves = 0
        for turn in range(900):
            telling = chance.telling() if turn % 3 else chance.kinds_telling()
            table = (list(COLUMNS), [chance.row() for _ in range(chance.random.randint(1, 9))])
            number = chance.random.randrange(len(table[1]))
            row = list(table[1][number])
            for at in chance.random.sample(range(len(row)), chance.pick((1, 1, 2))):
                row[at] = chance.row()[at]
            other = (table[0], table[1][:number] + [tuple(row)] + table[1][number + 1:])
            try:
                ground, gone, come = moved(telling, table, number, tuple(row))
                plains = [self.laid(telling, one) for one in (table, other)]
            except (NoSpace, NoPlan):
                continue
            if ground:
                continue
            found += 1
            near = {number}
            if any(step[0] == "kinds" for step in telling[0]):
                kinds = [self.kinds(telling, one) for one in (table, other)]
                wanted = [part[number] for part in kinds if number in part]
                near |= {at for part in kinds for at in part if part[at] in wanted}
            behind = [[(mark, {source for one in mark.rows for source in plain.sources[one]}) for mark in plain.marks] for plain in plains]
            touched = set()
            heaps = set()
            for part in behind:
                for mark, rows in part:
                    if rows & near:
                        touched |= rows
                        if mark.shape[0] == "part":
                            heaps.add((mark.facet, mark.layer, mark.shape[2:4]))
            for part, shapes in ((behind[0], gone), (behind[1], come)):
                for frame, shape in shapes:
                    moves += 1
                    fitting = [(mark, rows) for mark, rows in part if mark.facet == frame and mark.shape == shape]
                    self.assertTrue(any(rows & touched or (mark.facet, mark.layer, mark.shape[2:4]) in heaps for mark, rows in fitting), (telling, table, row))
        self.assertGreater(found, 150)
        self.assertGreater(moves, 100)


class Refusals(unittest.TestCase):
    TELLING = read_telling(HEAD)
    TABLE = table_of(ROWS)
    ROW = ((1, 1), (1, 1), "a", "x")

    def refused(self, error, *handed, row=()):
        with self.assertRaises(error) as caught:
            moved(*handed)
        if row != ():
            self.assertEqual(caught.exception.row, row)

    def test_no_table(self):
        for thing in things():
            self.refused(NoTable, self.TELLING, thing, 0, self.ROW)
        bad = (self.TABLE[0], self.TABLE[1] + [()])
        self.refused(NoTable, self.TELLING, bad, 0, self.ROW, row=4)
        self.refused(NoTable, None, bad, None, None, row=4)
        self.refused(NoTable, None, (1, 2), None, None, row=None)

    def test_a_number_that_is_no_rows(self):
        for number in [-1, 4, 5, 60, 10 ** 30, True, False, None, "0", (0, 1), [0], Agreeing()] + [thing for thing in things() if type(thing) is not int]:
            self.refused(NoTable, self.TELLING, self.TABLE, number, self.ROW, row=None)
            self.refused(NoTable, None, self.TABLE, number, None, row=None)
        self.refused(NoTable, self.TELLING, (self.TABLE[0], []), 0, self.ROW, row=None)

    def test_a_row_that_is_none_of_the_table(self):
        rows = [(), self.ROW[:3], self.ROW + (None,), list(self.ROW), ((1, 1), "a", "a", "x"), ((2, 4), None, None, None), (1, None, None, None),
                (None, None, "A", None), (None, None, None, True), None]
        for row in rows + things():
            for number in (0, 3):
                self.refused(NoTable, self.TELLING, self.TABLE, number, row, row=number)
                self.refused(NoTable, None, self.TABLE, number, row, row=number)

    def test_then_as_drawn(self):
        self.refused(NoTelling, None, self.TABLE, 0, self.ROW)
        self.refused(NoPlan, ([7],) + self.TELLING[1:], self.TABLE, 0, self.ROW)
        self.refused(NoTelling, (self.TELLING[0], ("z", ("straight",))) + self.TELLING[2:], self.TABLE, 0, self.ROW)
        self.refused(NoSpace, self.TELLING[:7] + ((60, 60, False),), self.TABLE, 0, self.ROW)

    def test_either_table_may_be_refused(self):
        order = read_telling("x w order; left straight; mark dots left n; sheet 300 200")
        some, none = table_of(f"{TOWNS} | 1, 1, a, x"), table_of(f"{TOWNS} | 1, 1, -, x")
        self.refused(NoSpace, order, some, 0, none[1][0])
        self.refused(NoSpace, order, none, 0, some[1][0])
        self.refused(NoSpace, order, none, 0, none[1][0])

    def test_what_is_told_is_the_askers_own(self):
        line = read_telling("x n straight 0 236; left straight 0 180; mark lines left m; sheet 300 200")
        first = moved(line, self.TABLE, 0, self.ROW)
        before = copy.deepcopy(first)
        self.assertNotEqual(first[1], [])
        emptied(first)
        self.assertEqual(moved(line, self.TABLE, 0, self.ROW), before)


if __name__ == "__main__":
    unittest.main()
