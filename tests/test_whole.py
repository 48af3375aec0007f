"""Points 1 to 3, over the whole program."""

import copy
import unittest
from fractions import Fraction

from chance import Chance
from fieldwork import emptied
from markscale.drawing import drawn
from markscale.errors import NoPlan, NoSpace
from markscale.kinds import parting, tables_of
from markscale.looker import is_right
from markscale.moves import moved
from markscale.reader import not_apart, read_back
from markscale.rules import is_saying, sayings
from markscale.tellingtexts import read_telling
from plaindraw import Plain
from sheets import is_ground, table_of
from things import fraction

HALF = Fraction(1, 2)


def exact(scale, cell):
    """The plain reading of point 12: the exact place of a cell that has one."""
    if scale[0] == "order":
        return Fraction(scale[2] * (2 * scale[1].index(cell) + 1), 2 * len(scale[1]))
    if scale[0] == "days":
        return Fraction(scale[3] * (cell - scale[1]), scale[2] - scale[1])
    cell = fraction(cell)
    if scale[0] == "straight":
        return (cell - fraction(scale[1])) * scale[3] / (fraction(scale[2]) - fraction(scale[1]))
    if scale[0] == "broken":
        for lo, hi, begin, end in scale[1]:
            if fraction(lo) <= cell <= fraction(hi):
                return begin + (cell - fraction(lo)) * (end - begin) / (fraction(hi) - fraction(lo))
    powers = [Fraction(scale[1]) ** (scale[2] + at) for at in range(scale[3] + 1)]
    at = max(turn for turn in range(scale[3]) if powers[turn] <= cell)
    return (at + (cell - powers[at]) / (powers[at + 1] - powers[at])) * Fraction(scale[4], scale[3])


class Drawings(unittest.TestCase):
    def each(self, seed, many):
        """Tellings, tables and their plain drawings."""
        chance = Chance(seed)
        for turn in range(many):
            telling = chance.telling() if turn % 4 else chance.kinds_telling()
            table = chance.table(chance.pick((3, 9, 30)))
            try:
                plain = Plain(telling, table)
                frames = plain.frames()
                plain.paper(frames, plain.spots())
            except (NoSpace, NoPlan):
                continue
            yield telling, table, plain, frames

    def near(self, place, wanted):
        self.assertLessEqual(abs(place - wanted), HALF)

    def points(self, plain, mark):
        """The tuples (point, row) of a dot, word, path or band, a point with an x, a y and of bands that of other."""
        rows = [plain.rows[at] for at in mark.rows]
        if mark.shape[0] in ("dot", "word"):
            return [(mark.shape[2:4], rows[0])]
        rows = sorted(rows, key=lambda row: exact(mark.scales[0], plain.cell(row, plain.x[0])))
        self.assertEqual(len(mark.shape[2]), len(rows))
        return list(zip(mark.shape[2], rows))

    def check_points(self, plain, mark, frame):
        x, y, _, height, _ = frame
        _, _, column, other = plain.layers[mark.layer]
        for point, row in self.points(plain, mark):
            self.near(point[0] - x, exact(mark.scales[0], plain.cell(row, plain.x[0])))
            for up, name in zip(point[1:], (column, other)):
                self.near(y + height - up, exact(mark.scales[1], plain.cell(row, name)))

    def check_bar(self, plain, mark, frame, sums):
        """The ends of a bar, part or five at its word, and what is put of its numbers; sums are those of heaps so far."""
        x, y, width, height, _ = frame
        cells = [fraction(plain.cell(plain.rows[at], plain.layers[mark.layer][2])) for at in mark.rows]
        word, many = plain.cell(plain.rows[mark.rows[0]], plain.x[0]), len(mark.scales[0][1])
        begin = Fraction(mark.scales[0][1].index(word) * width, many)
        self.near(mark.shape[2] - x, begin + Fraction(width, 10 * many))
        self.near(mark.shape[3] - x, begin + Fraction(9 * width, 10 * many))
        wanted = [(mark.shape[5], cells[0])]
        if mark.shape[0] == "five":
            wanted = [(mark.shape[4][0], min(cells)), (mark.shape[4][4], max(cells))]
        if mark.shape[0] == "part":
            heap = (mark.facet, mark.layer, word)
            wanted = [(mark.shape[4], sums[heap])] if sums.get(heap) else []
            sums[heap] = sums.get(heap, 0) + cells[0]
            wanted.append((mark.shape[5], sums[heap]))
        for up, one in wanted:
            self.near(y + height - up, exact(mark.scales[1], (one.numerator, one.denominator)))

    def test_a_no_more_than_half_a_place_off(self):
        found = 0
        for telling, table, plain, frames in self.each(3, 300):
            self.assertEqual([shape for shape in drawn(telling, table)[0] if not is_ground(shape)], [mark.shape for mark in plain.marks])
            sums = {}
            for mark in plain.marks:
                if mark.shape[0] in ("dot", "word", "path", "band"):
                    self.check_points(plain, mark, frames[mark.facet])
                else:
                    self.check_bar(plain, mark, frames[mark.facet], sums)
                found += 1
        self.assertGreater(found, 500)

    def test_b_each_row_once_in_each_layer(self):
        for telling, table, _, _ in self.each(4, 150):
            shapes, behind, lost = drawn(telling, table)
            for row in range(len(table[1])):
                shown = sum(rows.count(row) for rows in behind)
                gone = [loss[1] for loss in lost if loss[0] == row]
                self.assertEqual(shown + len(gone), len(telling[3]))
                self.assertEqual(len(gone), len(set(gone)))

    def test_all_stages_take_what_is_drawn(self):
        for telling, table, _, _ in self.each(5, 150):
            before = copy.deepcopy((telling, table))
            paper = drawn(telling, table)
            self.assertIs(is_right(table, telling, paper), True)
            self.assertEqual([at for at, _ in read_back(paper[0])], [at for at, shape in enumerate(paper[0]) if not is_ground(shape)])
            for alike in not_apart(paper[0]):
                self.assertEqual(len({str(paper[0][at]) for at in alike}), 1)
            for saying in sayings(telling, table):
                self.assertIs(is_saying(telling, table, saying), True)
            for number, row in enumerate(table[1][:3]):
                self.assertEqual(moved(telling, table, number, row), (False, [], []))
            self.assertEqual((telling, table), before)
            self.assertEqual(drawn(telling, table), paper)


class Tellings(unittest.TestCase):
    def test_e_on_each_table_of_a_kind(self):
        kind = ([("n", "number"), ("w", "word")], [[(1, 1), (3, 1), None], ["a", "b"]], 2)
        texts = ("x w order a b; left straight; mark dots left n; sheet 300 200", "x w order; left straight; mark dots left n; sheet 300 200",
                 "x w order a b; left straight; mark bars left n; sheet 300 200", "sieve there n; x w order a b; left straight; mark dots left n; sheet 300 200",
                 "x w order a b; left turns 2; mark dots left n; sheet 300 60")

        def outcome(telling, table):
            try:
                return drawn(telling, table)[0]
            except NoSpace:
                return "space"

        for one in texts:
            for other in texts:
                pair = read_telling(one), read_telling(other)
                apart = [(at, table) for at, table in enumerate(tables_of(kind)) if outcome(pair[0], table) != outcome(pair[1], table)]
                self.assertEqual(parting(*pair, kind), apart[0] if apart else None)


class Own(unittest.TestCase):
    def test_what_is_done_to_what_was_told_changes_nothing(self):
        table = table_of("n number, w word, v word | 1, a, x | 2, b, x | 2, b, x | 5, a, y")
        telling = read_telling("x n straight; left straight; mark lines left n; mark words left n w; colour w order; facet v order; sheet 600 200")
        paper = drawn(telling, table)
        calls = [lambda: drawn(telling, table), lambda: read_back(paper[0]), lambda: not_apart(paper[0]), lambda: sayings(telling, table),
                 lambda: moved(telling, table, 0, ((2, 1), "b", "y"))]
        for call in calls:
            first, again = call(), call()
            before = copy.deepcopy(again)
            emptied(first)
            self.assertEqual(again, before)
            self.assertEqual(call(), before)


if __name__ == "__main__":
    unittest.main()
