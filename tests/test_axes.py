"""Points 14, 15 and 16: axes and ticks."""

import bisect
import datetime
import itertools
import unittest
from fractions import Fraction
from math import ceil, floor

from markscale.axes import axis_for, labels_fit
from markscale.days import day_of, read_day
from markscale.errors import NoSpace
from markscale.figures import read_number
from markscale.numbers import rounded
from markscale.scales import place_on
from things import kept, told, words_many

WAYS = ("level", "upright")
DAY = day_of(2024, 2, 29)
POWERS = {(base, at): Fraction(base) ** at for base in (2, 10) for at in range(-250, 250)}
STEPS = [("days", 1), ("days", 7)] + [("months", many) for many in (1, 3, 12, 120, 1200, 12000)]


def written(one):
    return str(Fraction(one))


def fit(labels, gap, way):
    """The plain reading of point 15."""
    widest = max([6 * len(label) for label in labels] + [0])
    return gap >= 12 if way == "upright" else widest <= 60 and gap >= 6 + widest


def ticks_of(pairs, length):
    """Ticks of pairs of an exact part of the length and a text."""
    return [(floor(part * length + Fraction(1, 2)), text) for part, text in pairs]


def straight_of(cells, length, way, nought):
    """The plain reading of a straight axis without ends, or None."""
    cells = [Fraction(*cell) for cell in cells]
    lo, hi = (min(cells), max(cells)) if cells else (Fraction(0), Fraction(1))
    if nought:
        lo, hi = min(lo, 0), max(hi, 0)
    if lo == hi:
        hi = lo + 1
    most = 10 * max(1, abs(lo), abs(hi), hi - lo)
    step = Fraction(1, 10 ** 12)
    while step <= most:
        for one in (step, 2 * step, 5 * step):
            if one > most or one * length < 6 * (hi - lo):
                continue
            first, last = floor(lo / one), ceil(hi / one)
            if not fit([], Fraction(length, last - first), way):
                continue
            labels = [written(many * one) for many in range(first, last + 1)]
            if fit(labels, Fraction(length, last - first), way):
                parts = [Fraction(at, last - first) for at in range(last - first + 1)]
                return ("straight", told(first * one), told(last * one), length), ticks_of(zip(parts, labels), length)
        step *= 10
    return None


def months_by(many, known={}):
    """The first days of all months whose numbers are multiples of many, to the year 9000."""
    if many not in known:
        numbers = [month for month in range(12 * 1000, 12 * 9000 + 1) if month % many == 0]
        known[many] = [datetime.date(month // 12, month % 12 + 1, 1).toordinal() - 1 for month in numbers]
    return known[many]


def marks_about(unit, many, least, greatest):
    """The days of a step from the last one not above least to the first one not below greatest, two at least."""
    if unit == "days":
        return list(range(least - least % many, max(greatest + (-greatest) % many, least - least % many + many) + 1, many))
    months = months_by(many)
    first = bisect.bisect_right(months, least) - 1
    last = max(bisect.bisect_left(months, greatest), first + 1)
    return months[first:last + 1]


def days_of(cells, length, way):
    """The plain reading of an axis of days, or None."""
    least, greatest = (min(cells), max(cells)) if cells else (730119, 730120)
    for unit, many in STEPS:
        if unit == "days" and greatest - least > 20000:
            continue
        marks = marks_about(unit, many, least, greatest)
        gap = Fraction(length * min(b - a for a, b in zip(marks, marks[1:])), marks[-1] - marks[0])
        if fit(["1000-01-01"], gap, way):
            labels = [datetime.date.fromordinal(mark + 1).isoformat() for mark in marks]
            parts = [Fraction(mark - marks[0], marks[-1] - marks[0]) for mark in marks]
            return ("days", marks[0], marks[-1], length), ticks_of(zip(parts, labels), length)
    return None


class Axes(unittest.TestCase):
    def axis(self, wish, cells, length, way, *nought):
        """The axis, once it is seen that point 14 holds of it, or None where none is found."""
        try:
            scale, ticks = kept(self, axis_for, wish, cells, length, way, *nought)
        except NoSpace:
            return None
        self.assertIs(type(scale), tuple)
        self.assertIs(type(ticks), list)
        self.assertEqual(scale[-1], length)
        places = [tick[0] for tick in ticks]
        self.assertEqual(places, sorted(set(places)))
        for tick in ticks:
            self.assertIs(type(tick), tuple)
            place, text = tick
            self.assertIs(type(place), int)
            self.assertIs(type(text), str)
            cell = text if scale[0] == "order" else read_day(text) if scale[0] == "days" else None
            if cell is None and len(text) <= 60:
                cell = read_number(text)
            if cell is not None:
                self.assertEqual(rounded(place_on(scale, cell)), place)
        return scale, ticks

    def refused(self, *handed):
        self.assertIsNone(self.axis(*handed), handed)


class Labels(unittest.TestCase):
    def test_upright(self):
        for labels in ([], ["1"], ["1" * 300, "a"]):
            for gap, fits in (((12, 1), True), ((13, 1), True), ((1199, 100), False), ((0, 1), False), ((1201, 100), True)):
                self.assertIs(kept(self, labels_fit, labels, gap, "upright"), fits)

    def test_level(self):
        for labels, least in (([], 6), (["a"], 12), ([""], 6), (["a", "abc", "ab"], 24), (["1/2", "-1/20"], 36),
                              (["a" * 10], 66), (["b", "a" * 9], 60)):
            for gap, fits in ((told(least), True), (told(least * 100 - 1, 100), False), (told(least + 1), True),
                              (told(least * 100 + 1, 100), True), ((0, 1), False)):
                self.assertIs(kept(self, labels_fit, labels, gap, "level"), fits, (labels, gap))

    def test_level_labels_of_more_than_sixty_places(self):
        for gap in ((66, 1), (71, 1), (72, 1), (73, 1), (10 ** 6, 1)):
            self.assertIs(labels_fit(["a" * 11], gap, "level"), False)
            self.assertIs(labels_fit(["a", "a" * 400], gap, "level"), False)
            self.assertIs(labels_fit(["a" * 10], gap, "level"), True)


class Straight(Axes):
    def test_plain_ones(self):
        self.assertEqual(self.axis(("straight",), [(0, 1), (10, 1)], 120, "level"),
                         (("straight", (0, 1), (10, 1), 120),
                          [(0, "0"), (24, "2"), (48, "4"), (72, "6"), (96, "8"), (120, "10")]))
        self.assertEqual(self.axis(("straight",), [(3, 1), (10, 1), (7, 2)], 120, "upright"),
                         (("straight", (3, 1), (10, 1), 120),
                          [(0, "3"), (17, "4"), (34, "5"), (51, "6"), (69, "7"), (86, "8"), (103, "9"), (120, "10")]))
        self.assertEqual(self.axis(("straight",), [(3, 1), (10, 1), (7, 2)], 120, "upright", True),
                         (("straight", (0, 1), (10, 1), 120), [(12 * at, str(at)) for at in range(11)]))

    def test_the_very_gap(self):
        ten = [(0, 1), (10, 1)]
        self.assertEqual(len(self.axis(("straight",), ten, 120, "upright")[1]), 11)
        self.assertEqual(len(self.axis(("straight",), ten, 119, "upright")[1]), 6)
        self.assertEqual(len(self.axis(("straight",), ten, 180, "level")[1]), 11)
        self.assertEqual(len(self.axis(("straight",), ten, 179, "level")[1]), 6)

    def test_no_cells_one_and_alike_ones(self):
        for nought in (False, True):
            self.assertEqual(self.axis(("straight",), [], 24, "upright", nought),
                             (("straight", (0, 1), (1, 1), 24), [(0, "0"), (12, "1/2"), (24, "1")]))
        self.assertEqual(self.axis(("straight",), [(7, 1)], 24, "upright"),
                         (("straight", (7, 1), (8, 1), 24), [(0, "7"), (12, "15/2"), (24, "8")]))
        self.assertEqual(self.axis(("straight",), [(7, 1)] * 60, 24, "upright"), self.axis(("straight",), [(7, 1)], 24, "upright"))
        self.assertEqual(self.axis(("straight",), [(7, 1)], 24, "upright", True),
                         (("straight", (0, 1), (10, 1), 24), [(0, "0"), (12, "5"), (24, "10")]))
        self.assertEqual(self.axis(("straight",), [(0, 1)], 24, "upright", True)[0], ("straight", (0, 1), (1, 1), 24))
        self.assertEqual(self.axis(("straight",), [(1, 3)], 36, "upright"),
                         (("straight", (0, 1), (3, 2), 36), [(0, "0"), (12, "1/2"), (24, "1"), (36, "3/2")]))

    def test_cells_below_nought(self):
        self.assertEqual(self.axis(("straight",), [(-7, 1), (-3, 1)], 48, "upright"),
                         (("straight", (-7, 1), (-3, 1), 48), [(0, "-7"), (12, "-6"), (24, "-5"), (36, "-4"), (48, "-3")]))
        self.assertEqual(self.axis(("straight",), [(-7, 1), (-3, 1)], 48, "upright", True),
                         (("straight", (-8, 1), (0, 1), 48), [(0, "-8"), (12, "-6"), (24, "-4"), (36, "-2"), (48, "0")]))
        self.assertEqual(self.axis(("straight",), [(-1, 2), (1, 2)], 36, "upright"),
                         (("straight", (-1, 2), (1, 2), 36), [(0, "-1/2"), (18, "0"), (36, "1/2")]))

    def test_steps_below_one(self):
        self.assertEqual(self.axis(("straight",), [(0, 1), (1, 50)], 60, "upright"),
                         (("straight", (0, 1), (1, 50), 60),
                          [(0, "0"), (15, "1/200"), (30, "1/100"), (45, "3/200"), (60, "1/50")]))

    def test_nought_by_its_name(self):
        self.assertEqual(axis_for(("straight",), [(7, 1)], 24, "upright", nought=True)[0], ("straight", (0, 1), (10, 1), 24))
        self.assertEqual(axis_for(("straight",), [(7, 1)], 24, "upright", nought=False)[0], ("straight", (7, 1), (8, 1), 24))

    def test_numbers_of_many_figures(self):
        big = 10 ** 59
        self.assertEqual(self.axis(("straight",), [(big, 1), (3 * big, 1)], 24, "upright"),
                         (("straight", (big, 1), (3 * big, 1), 24), [(0, str(big)), (12, str(2 * big)), (24, str(3 * big))]))
        self.refused(("straight",), [(big, 1), (3 * big, 1)], 2000, "level")
        small = 10 ** 59
        self.assertEqual(self.axis(("straight",), [(0, 1), (1, small)], 24, "upright"),
                         (("straight", (0, 1), (1, small), 24), [(0, "0"), (12, f"1/{2 * small}"), (24, f"1/{small}")]))
        # Level, a label of eleven signs is too wide; 1/50000000 has ten.
        self.assertEqual(self.axis(("straight",), [(0, 1), (1, small)], 2000, "level")[0][1:3], ((0, 1), (1, 5 * 10 ** 7)))

    def test_where_none_fits(self):
        # Level, a label of eleven signs is too wide, and each step's last tick has one.
        self.refused(("straight",), [(10 ** 11, 1)], 2000, "level")
        self.assertIsNotNone(self.axis(("straight",), [(10 ** 11, 1)], 24, "upright"))
        self.refused(("straight",), [(-(10 ** 9), 1)], 24, "level")
        # About 0 there are two gaps at least.
        self.refused(("straight",), [(-5, 1), (5, 1)], 23, "upright")
        self.assertIsNotNone(self.axis(("straight",), [(-5, 1), (5, 1)], 24, "upright"))
        self.refused(("straight",), [(-1, 1), (1, 1)], 35, "level")
        self.assertIsNotNone(self.axis(("straight",), [(-1, 1), (1, 1)], 36, "level"))
        self.refused(("straight",), [(9, 1), (10, 1)], 17, "level")

    def test_the_last_step_is_ten_times_the_greatest(self):
        self.refused(("straight",), [(0, 1), (1, 1)], 11, "upright")
        self.refused(("straight",), [(0, 1), (1, 1)], 11, "level")
        # The cells lie about a multiple of each step up to 100; by 200 there is one gap.
        self.assertEqual(self.axis(("straight",), [(99, 1), (101, 1)], 24, "level"),
                         (("straight", (0, 1), (200, 1), 24), [(0, "0"), (24, "200")]))
        self.refused(("straight",), [(99, 1), (101, 1)], 23, "level")
        self.assertEqual(self.axis(("straight",), [(1, 7), (2, 7)], 12, "level"),
                         (("straight", (0, 1), (1, 1), 12), [(0, "0"), (12, "1")]))
        for cells in ([(99, 1), (101, 1)], [(1, 7), (2, 7)], [(-99, 1), (-101, 1)], [(999, 1), (1001, 1)]):
            for length in range(10, 40):
                self.assertEqual(self.axis(("straight",), cells, length, "level"), straight_of(cells, length, "level", False))

    def test_by_plain_reading(self):
        some = [Fraction(one) for one in ("0", "1", "-1", "1/3", "7/2", "-19/60", "99", "100", "101", "12345", "-99999/7",
                                          "1000000007", "-1/59", "999999999999999999", "1/1000000", "-3")]
        for one, other in itertools.combinations_with_replacement(some, 2):
            for length, way, nought in itertools.product((24, 61, 400), WAYS, (False, True)):
                cells = [told(one), told(other), told((one + other) / 2)]
                self.assertEqual(self.axis(("straight",), cells, length, way, nought),
                                 straight_of(cells, length, way, nought), (cells, length, way, nought))

    def test_ends_told(self):
        for way, length, nought in itertools.product(WAYS, (24, 100, 2000), (False, True)):
            for cells in ([], [(5, 1)], [(-100, 1), (100, 1)]):
                self.assertEqual(self.axis(("straight", (1, 3), (10 ** 17, 1)), cells, length, way, nought),
                                 (("straight", (1, 3), (10 ** 17, 1), length), [(0, "1/3"), (length, "1" + 17 * "0")]))


class Turns(Axes):
    def test_plain_ones(self):
        self.assertEqual(self.axis(("turns", 10), [(3, 1), (500, 1)], 100, "level"),
                         (("turns", 10, 0, 3, 100), [(0, "1"), (33, "10"), (67, "100"), (100, "1000")]))
        self.assertEqual(self.axis(("turns", 2), [(3, 1), (1, 3)], 60, "upright"),
                         (("turns", 2, -2, 4, 60), [(0, "1/4"), (15, "1/2"), (30, "1"), (45, "2"), (60, "4")]))
        self.assertEqual(self.axis(("turns", 2), [(3, 1), (1, 3)], 36, "upright"),
                         (("turns", 2, -2, 4, 36), [(0, "1/4"), (18, "1"), (36, "4")]))

    def test_nought_is_not_heeded(self):
        self.assertEqual(self.axis(("turns", 10), [(3, 1), (500, 1)], 100, "level", True),
                         self.axis(("turns", 10), [(3, 1), (500, 1)], 100, "level", False))

    def test_no_cells_above_nought(self):
        for cells in ([], [(0, 1)], [(-5, 1), (0, 1), (-1, 2)]):
            for base in (2, 10):
                self.assertEqual(self.axis(("turns", base), cells, 24, "upright"),
                                 (("turns", base, 0, 1, 24), [(0, "1"), (24, str(base))]))
        self.assertEqual(self.axis(("turns", 10), [(-5, 1), (20, 1), (0, 1)], 24, "upright")[0], ("turns", 10, 1, 1, 24))

    def test_alike_powers(self):
        self.assertEqual(self.axis(("turns", 10), [(100, 1)], 24, "upright"),
                         (("turns", 10, 2, 1, 24), [(0, "100"), (24, "1000")]))
        self.assertEqual(self.axis(("turns", 2), [(1, 8), (1, 8)], 24, "upright"),
                         (("turns", 2, -3, 1, 24), [(0, "1/8"), (24, "1/4")]))
        self.assertEqual(self.axis(("turns", 10), [(1, 1), (10, 1)], 24, "upright")[0], ("turns", 10, 0, 1, 24))
        self.assertEqual(self.axis(("turns", 10), [(1, 1), (11, 1)], 24, "upright")[0], ("turns", 10, 0, 2, 24))
        self.assertEqual(self.axis(("turns", 10), [(9, 10), (10, 1)], 24, "upright")[0], ("turns", 10, -1, 2, 24))

    def test_multiples_of_m(self):
        # From -4 to 7 by 2 the axis goes to 8, by 3 from -6 to 9, by 4 from -4 to 8, by 5 from -5 to 10.
        cells = [(1, 16), (128, 1)]
        for length, scale in ((132, (-4, 11)), (131, (-4, 12)), (72, (-4, 12)), (71, (-6, 15)), (60, (-6, 15)),
                              (59, (-4, 12)), (36, (-4, 12)), (35, (-6, 18)), (34, (-6, 18)), (24, (-7, 14)), (26, (-7, 14))):
            found = self.axis(("turns", 2), cells, length, "upright")
            self.assertEqual(found, self.plain(2, cells, length, "upright"), length)
            if length > 35:
                self.assertEqual(found[0][2:4], scale)

    def plain(self, base, cells, length, way):
        above = [Fraction(*cell) for cell in cells if cell[0] > 0]
        first = next(at for at in reversed(range(-250, 250)) if POWERS[base, at] <= min(above))
        last = next(at for at in range(-250, 250) if POWERS[base, at] >= max(above))
        last = last + 1 if first == last else last
        for m in range(1, 41):
            lo, hi = first // m * m, -(-last // m) * m
            if lo < -200 or hi > 200:
                continue
            labels = [written(POWERS[base, at]) for at in range(lo, hi + 1, m)]
            gaps = len(labels) - 1
            if fit(labels, Fraction(length, gaps), way):
                return ("turns", base, lo, hi - lo, length), ticks_of(
                    [(Fraction(at, gaps), label) for at, label in enumerate(labels)], length)
        return None

    def test_by_plain_reading(self):
        some = [Fraction(one) for one in ("1", "2", "10", "1/2", "1/10", "3/7", "1023", "1024", "1025", "999999999999",
                                          "1/60", "1000000")]
        some += [Fraction(10) ** 59, Fraction(1, 10 ** 59), Fraction(2) ** 150, Fraction(1, 2 ** 150)]
        for one, other in itertools.combinations_with_replacement(some, 2):
            for base, length, way in itertools.product((2, 10), (24, 110, 999), WAYS):
                cells = [told(one), (-7, 1), told(other), (0, 1)]
                self.assertEqual(self.axis(("turns", base), cells, length, way), self.plain(base, cells, length, way))

    def test_far_powers(self):
        ends = [(2 ** 199, 1), (1, 2 ** 199)]
        self.assertEqual(self.axis(("turns", 2), ends, 2000, "upright"), self.plain(2, ends, 2000, "upright"))
        self.assertEqual(self.axis(("turns", 2), [(2 ** 200, 1), (1, 2 ** 200)], 2000, "upright")[0], ("turns", 2, -200, 400, 2000))
        self.assertEqual(self.axis(("turns", 2), [(2 ** 200, 1), (1, 2 ** 200)], 120, "upright")[0], ("turns", 2, -200, 400, 120))
        self.refused(("turns", 2), [(2 ** 200, 1), (1, 2 ** 200)], 119, "upright")
        self.assertEqual(self.axis(("turns", 2), [(2 ** 199, 1)], 24, "upright")[0], ("turns", 2, 199, 1, 24))
        self.assertEqual(self.axis(("turns", 2), [(1, 2 ** 200)], 24, "upright")[0], ("turns", 2, -200, 1, 24))
        self.refused(("turns", 2), [(2 ** 200, 1)], 2000, "upright")
        self.refused(("turns", 2), [(2 ** 200 + 1, 1)], 2000, "upright")
        self.refused(("turns", 2), [(1, 2 ** 200 + 1)], 2000, "upright")
        self.refused(("turns", 10), [(10 ** 10, 1)], 2000, "level")

    def test_m_is_at_most_forty(self):
        # From -160 to 160 the widest that is tried is 40, with eight gaps; 41 and more would have fewer.
        ends = [(1, 2 ** 160), (2 ** 160, 1)]
        self.assertEqual(self.axis(("turns", 2), ends, 96, "upright")[0], ("turns", 2, -160, 320, 96))
        self.refused(("turns", 2), ends, 95, "upright")
        # From -164 to 164 there are ten gaps by 40, eight by 41.
        ends = [(1, 2 ** 164), (2 ** 164, 1)]
        self.assertIsNotNone(self.axis(("turns", 2), ends, 120, "upright"))
        self.refused(("turns", 2), ends, 119, "upright")


class Broken(Axes):
    def test_parting(self):
        ends = (((0, 1), (10, 1)), ((50, 1), (60, 1)))
        self.assertEqual(self.axis(("broken", ends), [(5, 1)], 106, "level"),
                         (("broken", [((0, 1), (10, 1), 0, 50), ((50, 1), (60, 1), 56, 106)], 106),
                          [(0, "0"), (50, "10"), (56, "50"), (106, "60")]))
        self.assertEqual(self.axis(("broken", ends), [], 107, "upright", True)[0][1],
                         [((0, 1), (10, 1), 0, 50), ((50, 1), (60, 1), 56, 107)])
        ends = (((-1, 1), (-1, 2)), ((0, 1), (1, 3)), ((1, 2), (2, 1)), ((5, 2), (3, 1)))
        # Spans 1/2, 1/3, 3/2, 1/2 of 17/6 together: of 182 that is 32 2/17, 21 7/17, 96 6/17, and what is left.
        self.assertEqual(self.axis(("broken", ends), [], 200, "upright"),
                         (("broken", [((-1, 1), (-1, 2), 0, 32), ((0, 1), (1, 3), 38, 59), ((1, 2), (2, 1), 65, 161),
                                      ((5, 2), (3, 1), 167, 200)], 200),
                          [(0, "-1"), (32, "-1/2"), (38, "0"), (59, "1/3"), (65, "1/2"), (161, "2"), (167, "5/2"), (200, "3")]))

    def test_pieces_too_short(self):
        even = (((0, 1), (1, 1)), ((2, 1), (3, 1)))
        self.assertEqual(self.axis(("broken", even), [], 30, "upright")[0][1][0][2:], (0, 12))
        self.refused(("broken", even), [], 29, "upright")
        self.assertEqual(self.axis(("broken", even), [], 42, "level")[0][1][0][2:], (0, 18))
        self.refused(("broken", even), [], 41, "level")
        # The last piece is looked at likewise, and the widest label of all counts for each.
        self.refused(("broken", (((0, 1), (100, 1)), ((101, 1), (102, 1)))), [], 900, "upright")
        wide = (((0, 1), (1, 1)), ((1000, 1), (1001, 1)))
        self.assertEqual(self.axis(("broken", wide), [], 78, "level")[0][1][1][2:], (42, 78))
        self.refused(("broken", wide), [], 77, "level")

    def test_labels_of_more_than_sixty_places(self):
        ten = (((0, 1), (10 ** 9, 1)), ((2 * 10 ** 9, 1), (3 * 10 ** 9, 1)))
        self.assertIsNotNone(self.axis(("broken", ten), [], 150, "level"))
        self.refused(("broken", ten), [], 149, "level")
        eleven = (((0, 1), (10 ** 9, 1)), ((9 * 10 ** 9, 1), (10 ** 10, 1)))
        self.refused(("broken", eleven), [], 2000, "level")
        self.assertIsNotNone(self.axis(("broken", eleven), [], 30, "upright"))

    def test_gaps_that_use_the_length_up(self):
        four = tuple([(told(2 * at), told(2 * at + 1)) for at in range(4)])
        for length in (1, 17, 18, 19, 24, 65):
            self.refused(("broken", four), [], length, "upright")
        self.assertEqual([piece[2:] for piece in self.axis(("broken", four), [], 66, "upright")[0][1]],
                         [(0, 12), (18, 30), (36, 48), (54, 66)])


class Days(Axes):
    def check(self, cells, length, way):
        found = self.axis(("days",), cells, length, way)
        self.assertEqual(found, days_of(cells, length, way), (cells, length, way))
        return found

    def test_each_step(self):
        for days, first, second in ((9, "2024-02-29", "2024-03-01"), (60, "2024-02-26", "2024-03-04"),
                                    (250, "2024-02-01", "2024-03-01"), (800, "2024-01-01", "2024-04-01"),
                                    (3000, "2024-01-01", "2025-01-01"), (9000, "2020-01-01", "2030-01-01"),
                                    (90000, "2000-01-01", "2100-01-01"), (900000, "2000-01-01", "3000-01-01")):
            scale, ticks = self.check([DAY + days, DAY], 135, "upright")
            self.assertEqual([ticks[0][1], ticks[1][1]], [first, second])

    def test_plain_ones(self):
        self.assertEqual(self.axis(("days",), [DAY, DAY + 2], 24, "upright"),
                         (("days", DAY, DAY + 2, 24), [(0, "2024-02-29"), (12, "2024-03-01"), (24, "2024-03-02")]))
        self.assertEqual(self.axis(("days",), [DAY, DAY + 2], 132, "level"),
                         (("days", DAY, DAY + 2, 132), [(0, "2024-02-29"), (66, "2024-03-01"), (132, "2024-03-02")]))
        # 29 February 2024 is a Thursday: by weeks the axis begins on Monday the 26th.
        self.assertEqual(self.axis(("days",), [DAY + 2, DAY], 131, "level"),
                         (("days", DAY - 3, DAY + 4, 131), [(0, "2024-02-26"), (131, "2024-03-04")]))

    def test_no_cells_and_alike_ones(self):
        self.assertEqual(self.axis(("days",), [], 24, "upright"),
                         (("days", 730119, 730120, 24), [(0, "2000-01-01"), (24, "2000-01-02")]))
        self.assertEqual(self.axis(("days",), [DAY, DAY], 24, "upright", True),
                         (("days", DAY, DAY + 1, 24), [(0, "2024-02-29"), (24, "2024-03-01")]))
        for day in (day_of(2024, 1, 1), day_of(8000, 1, 1), day_of(1000, 1, 1), day_of(8999, 12, 31), DAY - 3):
            for length, way in ((11, "upright"), (12, "upright"), (65, "level"), (66, "level")):
                self.check([day], length, way)

    def test_alike_days_of_longer_steps(self):
        # Of both cells the greatest month's begin not above and the least not below are one; the next one is taken.
        first = day_of(2024, 3, 1)
        self.assertEqual(self.axis(("days",), [first], 66, "level")[0][1:3], (first, first + 1))
        self.refused(("days",), [first], 65, "level")

    def test_ends_of_months_and_years(self):
        for year, month, day in ((2023, 12, 31), (2024, 1, 1), (2024, 2, 29), (2024, 3, 1), (2023, 2, 28), (1999, 12, 31),
                                 (2000, 1, 1), (2000, 3, 31), (2000, 4, 1), (1000, 1, 1), (8999, 12, 31), (8999, 1, 1)):
            one = day_of(year, month, day)
            for away in (1, 30, 31, 59, 365, 366, 3653, 36525, 400000, 2000000, 2921000):
                for other in (one - away, one + away):
                    if day_of(1000, 1, 1) <= other <= day_of(8999, 12, 31):
                        for length, way in ((24, "upright"), (200, "level"), (151, "upright"), (2000, "level")):
                            self.check([one, other], length, way)

    def test_the_gap_is_the_least_of_all(self):
        # From January to May the least month has 29 days of 121.
        cells = [day_of(2024, 1, 1), day_of(2024, 5, 1)]
        for length, many in ((51, 5), (50, 3), (400, 19)):
            self.assertEqual(len(self.check(cells, length, "upright")[1]), many, length)
        self.assertEqual(self.axis(("days",), cells, 276, "level")[1][1][1], "2024-02-01")
        self.assertEqual(self.axis(("days",), cells, 275, "level")[1][1][1], "2024-04-01")

    def test_where_none_fits(self):
        self.refused(("days",), [day_of(1000, 1, 1), day_of(8999, 12, 31)], 95, "upright")
        self.assertEqual(self.axis(("days",), [day_of(1000, 1, 1), day_of(8999, 12, 31)], 97, "upright")[0][1:3],
                         (day_of(1000, 1, 1), day_of(9000, 1, 1)))
        # About the year 2000 each of the longer steps has two gaps, one week has one.
        self.assertEqual(self.axis(("days",), [day_of(1999, 12, 31), day_of(2000, 1, 2)], 131, "level")[1][0][1], "1999-12-27")
        self.refused(("days",), [day_of(1999, 12, 31), day_of(2000, 1, 10)], 131, "level")
        self.assertIsNotNone(self.axis(("days",), [day_of(1999, 12, 31), day_of(2000, 1, 9)], 132, "level"))


class Order(Axes):
    def test_told(self):
        for cells in ([], ["b"], ["z", "a"]):
            self.assertEqual(self.axis(("order", ("c", "a", "b")), cells, 100, "level"),
                             (("order", ["c", "a", "b"], 100), [(17, "c"), (50, "a"), (83, "b")]))

    def test_by_first_coming(self):
        self.assertEqual(self.axis(("order",), ["b", "a", "b", "c", "a"], 100, "upright", True),
                         (("order", ["b", "a", "c"], 100), [(17, "b"), (50, "a"), (83, "c")]))
        self.assertEqual(self.axis(("order",), ["only"], 30, "level"), (("order", ["only"], 30), [(15, "only")]))

    def test_of_none(self):
        self.refused(("order",), [], 2000, "level")
        self.refused(("order",), [], 2000, "upright")

    def test_sixty_and_sixty_one(self):
        for way, length in (("upright", 720), ("level", 1080)):
            sixty = words_many(60)
            for wish, cells in ((("order",), sixty), (("order", tuple(sixty)), [])):
                scale, ticks = self.axis(wish, cells, length, way)
                self.assertEqual(scale, ("order", sixty, length))
                self.assertEqual([text for place, text in ticks], sixty)
                self.refused(wish, cells, length - 1, way)
            self.refused(("order",), words_many(61), 2000, way)
            self.assertIsNotNone(self.axis(("order",), words_many(60) + words_many(60), 2000, way))

    def test_labels_that_do_not_fit(self):
        self.assertIsNotNone(self.axis(("order", ("abcd", "a")), [], 60, "level"))
        self.refused(("order", ("abcd", "a")), [], 59, "level")
        self.assertIsNotNone(self.axis(("order", ("abcd", "a")), [], 24, "upright"))
        self.refused(("order", ("abcd", "a")), [], 23, "upright")

    def test_words_whose_places_are_alike(self):
        self.refused(("order",), words_many(60), 24, "upright")
        self.refused(("order",), words_many(60), 24, "level")
        self.refused(("order", tuple(words_many(50))), [], 48, "upright")


class OwnThings(unittest.TestCase):
    def test_what_is_told_is_the_askers_own(self):
        for wish, cells in ((("straight",), [(1, 1)]), (("straight", (0, 1), (1, 1)), []), (("turns", 2), [(3, 1)]),
                            (("broken", (((0, 1), (1, 1)), ((2, 1), (3, 1)))), []), (("days",), [DAY]),
                            (("order",), ["b", "a"]), (("order", ("b", "a")), [])):
            first = axis_for(wish, cells, 100, "upright")
            again = axis_for(wish, cells, 100, "upright")
            self.assertEqual(first, again)
            first[1].clear()
            for part in first[0]:
                if isinstance(part, list):
                    part.clear()
            self.assertEqual(axis_for(wish, cells, 100, "upright"), again)
        words = ["b", "a"]
        axis = axis_for(("order",), words, 100, "upright")
        words.append("c")
        self.assertEqual(axis[0], ("order", ["b", "a"], 100))


if __name__ == "__main__":
    unittest.main()
