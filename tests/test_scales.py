"""Points 12 and 13: scales, places and what has them."""

import copy
import itertools
import unittest
from fractions import Fraction
from math import floor

from markscale.days import day_of
from markscale.numbers import is_number, under
from markscale.scales import place_on, read_on, stretch_on, words_at
from things import kept

DAY = day_of(2024, 2, 29)
STRAIGHT = ("straight", (-1, 1), (3, 1), 100)
TENS = ("turns", 10, -1, 3, 90)
TWOS = ("turns", 2, -2, 5, 60)
BROKEN = ("broken", [((0, 1), (10, 1), 0, 40), ((50, 1), (60, 1), 46, 80), ((121, 2), (70, 1), 86, 100)], 100)
DAYS = ("days", DAY, DAY + 10, 25)
ORDER = ("order", ["b", "a", "c"], 100)
SCALES = (STRAIGHT, TENS, TWOS, BROKEN, DAYS, ORDER)


def told(one, bottom=1):
    fraction = Fraction(one, bottom)
    return (fraction.numerator, fraction.denominator)


class Places(unittest.TestCase):
    def places(self, scale, pairs):
        for cell, place in pairs:
            self.assertEqual(kept(self, place_on, scale, cell), place, (scale, cell))

    def test_straight(self):
        self.places(STRAIGHT, [((-1, 1), (0, 1)), ((3, 1), (100, 1)), ((0, 1), (25, 1)), ((1, 3), (100, 3)),
                               ((299, 100), (399, 4)), ((-101, 100), "outside"), ((301, 100), "outside"),
                               ((-10, 1), "outside"), ((10 ** 59, 1), "outside"), (None, "nothing")])
        self.places(("straight", (1, 3), (1, 2), 7), [((1, 3), (0, 1)), ((1, 2), (7, 1)), ((5, 12), (7, 2)),
                                                      ((2, 5), (14, 5)), ((0, 1), "outside"), ((33, 100), "outside")])

    def test_turns_of_ten(self):
        self.places(TENS, [((1, 10), (0, 1)), ((1, 1), (30, 1)), ((10, 1), (60, 1)), ((100, 1), (90, 1)),
                           ((11, 2), (45, 1)), ((11, 20), (15, 1)), ((55, 1), (75, 1)), ((99, 1), (269, 3)),
                           ((1, 11), "outside"), ((1001, 10), "outside"), ((1000, 1), "outside"), ((1, 100), "outside"),
                           ((0, 1), "nought"), ((-1, 1), "nought"), ((-1, 60), "nought"), ((-1000, 1), "nought"),
                           (None, "nothing")])

    def test_turns_of_two(self):
        self.places(TWOS, [((1, 4), (0, 1)), ((1, 2), (12, 1)), ((3, 4), (18, 1)), ((1, 1), (24, 1)), ((3, 2), (30, 1)),
                           ((4, 1), (48, 1)), ((8, 1), (60, 1)), ((1, 5), "outside"), ((9, 1), "outside"),
                           ((16, 1), "outside"), ((17, 2), "outside"), ((1, 8), "outside"), ((0, 1), "nought")])

    def test_turns_far_off(self):
        self.places(("turns", 10, 40, 1, 100), [((10 ** 40, 1), (0, 1)), ((10 ** 41, 1), (100, 1)), ((1, 1), "outside"),
                                                ((10 ** 41 + 1, 1), "outside"), ((10 ** 40 - 1, 1), "outside"),
                                                ((55 * 10 ** 39, 1), (50, 1)), ((0, 1), "nought")])
        self.places(("turns", 2, -100, 1, 100), [((1, 2 ** 100), (0, 1)), ((1, 2 ** 99), (100, 1)),
                                                 ((3, 2 ** 101), (50, 1)), ((1, 2 ** 101), "outside"),
                                                 ((1, 2 ** 98), "outside")])
        self.places(("turns", 10, -200, 400, 4000), [((1, 1), (2000, 1)), ((10 ** 59, 1), (2590, 1)),
                                                     ((1, 10 ** 59), (1410, 1)), ((-5, 1), "nought")])
        self.places(("turns", 10, 200, 400, 4000), [((1, 1), "outside"), ((10 ** 59, 1), "outside")])

    def test_turns_by_plain_reading(self):
        for base, low, many, length in ((2, -3, 7, 50), (10, -2, 4, 33), (2, 1, 2, 9), (10, 0, 1, 4000)):
            scale = ("turns", base, low, many, length)
            for top, bottom in itertools.product(range(1, 70), (1, 3, 7, 20, 60)):
                cell = Fraction(top, bottom)
                place = "outside"
                for turn in range(many):
                    begin, end = Fraction(base) ** (low + turn), Fraction(base) ** (low + turn + 1)
                    if begin <= cell <= end:
                        place = told((turn + (cell - begin) / (end - begin)) * Fraction(length, many))
                self.assertEqual(place_on(scale, told(cell)), place)

    def test_broken(self):
        self.places(BROKEN, [((0, 1), (0, 1)), ((10, 1), (40, 1)), ((5, 2), (10, 1)), ((50, 1), (46, 1)),
                             ((60, 1), (80, 1)), ((55, 1), (63, 1)), ((121, 2), (86, 1)), ((70, 1), (100, 1)),
                             ((261, 4), (93, 1)), ((101, 10), "gap"), ((30, 1), "gap"), ((499, 10), "gap"),
                             ((601, 10), "gap"), ((-1, 60), "outside"), ((701, 10), "outside"), (None, "nothing"),
                             ((-50, 1), "outside"), ((1000, 1), "outside")])

    def test_days(self):
        self.places(DAYS, [(DAY, (0, 1)), (DAY + 10, (25, 1)), (DAY + 1, (5, 2)), (DAY + 5, (25, 2)),
                           (DAY - 1, "outside"), (DAY + 11, "outside"), (None, "nothing")])

    def test_order(self):
        self.places(ORDER, [("b", (50, 3)), ("a", (50, 1)), ("c", (250, 3)), ("d", "unknown"), ("aa", "unknown"),
                            (None, "nothing")])
        self.places(("order", ["only"], 7), [("only", (7, 2)), ("on", "unknown")])
        sixty = [one + other for one in "abcdef" for other in "abcdefghij"]
        self.places(("order", sixty, 60), [(word, told(2 * at + 1, 2)) for at, word in enumerate(sixty)])

    def test_lengths(self):
        for length in (1, 4000):
            self.places(("straight", (0, 1), (1, 1), length), [((1, 1), (length, 1)), ((1, 2), told(length, 2))])
            self.places(("turns", 2, 0, 1, length), [((2, 1), (length, 1)), ((1, 1), (0, 1))])
            self.places(("days", 0, 1, length), [(1, (length, 1)), (0, (0, 1))])

    def test_the_lesser_has_the_lesser_place(self):
        cells = sorted({Fraction(top, bottom) for top in range(-10, 80) for bottom in (1, 2, 7)})
        for scale in (STRAIGHT, TENS, TWOS, BROKEN):
            places = [place_on(scale, told(cell)) for cell in cells]
            places = [place for place in places if not isinstance(place, str)]
            self.assertGreater(len(places), 5)
            for one, other in zip(places, places[1:]):
                self.assertIs(is_number(one), True)
                self.assertIs(under(one, other), True)


class ReadBack(unittest.TestCase):
    def test_straight(self):
        for place, one in (((0, 1), (-1, 1)), ((100, 1), (3, 1)), ((25, 1), (0, 1)), ((1, 2), (-49, 50)), ((100, 3), (1, 3))):
            self.assertEqual(kept(self, read_on, STRAIGHT, place), one)

    def test_turns(self):
        for place, one in (((0, 1), (1, 10)), ((15, 1), (11, 20)), ((30, 1), (1, 1)), ((45, 1), (11, 2)), ((90, 1), (100, 1)),
                           ((179, 2), (197, 2))):
            self.assertEqual(kept(self, read_on, TENS, place), one)
        for place, one in (((0, 1), (1, 4)), ((6, 1), (3, 8)), ((12, 1), (1, 2)), ((60, 1), (8, 1)), ((54, 1), (6, 1))):
            self.assertEqual(read_on(TWOS, place), one)
        self.assertEqual(read_on(("turns", 10, -200, 400, 4000), (0, 1)), (1, 10 ** 200))
        self.assertEqual(read_on(("turns", 10, 200, 400, 4000), (4000, 1)), (10 ** 600, 1))

    def test_broken(self):
        for place, one in (((0, 1), (0, 1)), ((10, 1), (5, 2)), ((40, 1), (10, 1)), ((46, 1), (50, 1)), ((63, 1), (55, 1)),
                           ((80, 1), (60, 1)), ((86, 1), (121, 2)), ((93, 1), (261, 4)), ((100, 1), (70, 1)),
                           ((81, 2), None), ((43, 1), None), ((91, 2), None), ((161, 2), None), ((85, 1), None)):
            self.assertEqual(kept(self, read_on, BROKEN, place), one)

    def test_days(self):
        for place, one in (((0, 1), told(DAY)), ((25, 1), told(DAY + 10)), ((5, 2), told(DAY + 1)),
                           ((1, 1), told(5 * DAY + 2, 5))):
            self.assertEqual(kept(self, read_on, DAYS, place), one)

    def test_order(self):
        for place in ((0, 1), (50, 1), (100, 1), (1, 3)):
            self.assertIsNone(kept(self, read_on, ORDER, place))

    def test_what_place_on_tells(self):
        for scale in (STRAIGHT, TENS, TWOS, BROKEN, ("turns", 2, -200, 400, 3999), ("straight", (1, 7), (70, 1), 13)):
            found = 0
            for top, bottom in itertools.product(range(-10, 80), (1, 2, 7, 60)):
                cell = told(top, bottom)
                place = place_on(scale, cell)
                if not isinstance(place, str):
                    found += 1
                    self.assertEqual(read_on(scale, place), cell)
            self.assertGreater(found, 10)
        for day in range(DAY, DAY + 11):
            self.assertEqual(read_on(DAYS, place_on(DAYS, day)), (day, 1))


class Words(unittest.TestCase):
    def test_stretch_on(self):
        self.assertEqual([kept(self, stretch_on, ORDER, word) for word in "bac"],
                         [((0, 1), (100, 3)), ((100, 3), (200, 3)), ((200, 3), (100, 1))])
        self.assertEqual(stretch_on(("order", ["only"], 7), "only"), ((0, 1), (7, 1)))

    def test_words_at(self):
        self.assertEqual([kept(self, words_at, ORDER, along) for along in (17, 50, 83)], [["b"], ["a"], ["c"]])
        for along in (-1, 0, 16, 18, 49, 51, 82, 84, 100, 101, 10 ** 100, -(10 ** 100)):
            self.assertEqual(words_at(ORDER, along), [])

    def test_several_words_at_one_place(self):
        scale = ("order", ["d", "c", "b", "a"], 2)
        self.assertEqual([words_at(scale, along) for along in range(-1, 4)], [[], ["d"], ["c", "b"], ["a"], []])
        one = ("order", ["d", "c", "b", "a"], 1)
        self.assertEqual([words_at(one, along) for along in range(-1, 3)], [[], ["d", "c"], ["b", "a"], []])

    def test_halves_are_rounded_up(self):
        self.assertEqual([words_at(("order", ["a"], 1), along) for along in (0, 1)], [[], ["a"]])
        self.assertEqual([words_at(("order", ["a", "b"], 2), along) for along in (0, 1, 2)], [[], ["a"], ["b"]])

    def test_each_word_is_at_one_place(self):
        for many in range(1, 61):
            words = [one + other for one in "abcdef" for other in "abcdefghij"][:many]
            for length in (1, 7, 60, 99):
                scale = ("order", words, length)
                found = [(along, word) for along in range(-1, length + 2) for word in words_at(scale, along)]
                self.assertEqual([word for along, word in found], words)
                for along, word in found:
                    self.assertEqual(along, floor(Fraction(*place_on(scale, word)) + Fraction(1, 2)))

    def test_what_is_told_is_the_askers_own(self):
        scale = copy.deepcopy(ORDER)
        words = words_at(scale, 50)
        words.append("x")
        self.assertEqual(words_at(scale, 50), ["a"])
        self.assertEqual(scale, ORDER)
        only = ("order", ["only"], 2)
        words_at(only, 1).clear()
        self.assertEqual(words_at(only, 1), ["only"])


if __name__ == "__main__":
    unittest.main()
