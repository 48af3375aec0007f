"""Point 4: numbers, held against Python's own fractions."""

import unittest
from fractions import Fraction
from math import floor

from markscale.errors import NoNumber
from markscale.numbers import (floor_of, in_order, is_number, is_whole, minus, number, over, plus, rounded, times,
                               under)
from things import kept, things

LONG = 3 ** 125
TOPS = (-LONG, -100, -7, -6, -5, -3, -2, -1, 0, 1, 2, 3, 4, 6, 9, 50, 97, LONG, LONG * 10)
BOTTOMS = (-LONG, -60, -4, -3, -2, -1, 1, 2, 3, 5, 6, 10, 60, LONG)
ONES = [number(top, bottom) for top in (-LONG, -7, -3, -1, 0, 1, 2, 5, 12, LONG) for bottom in (1, 2, 3, 4, 7, 60)]


def told(fraction):
    return (fraction.numerator, fraction.denominator)


class Made(unittest.TestCase):
    def test_lowest_terms(self):
        for top in TOPS:
            for bottom in BOTTOMS:
                self.assertEqual(number(top, bottom), told(Fraction(top, bottom)))

    def test_some_by_hand(self):
        self.assertEqual(number(6, -4), (-3, 2))
        self.assertEqual(number(-6, -4), (3, 2))
        self.assertEqual(number(0, -9), (0, 1))
        self.assertEqual(number(10 ** 60, 10 ** 59 * 4), (5, 2))

    def test_bottom_is_1_where_it_is_not_told(self):
        self.assertEqual(number(7), (7, 1))
        self.assertEqual(number(-7), (-7, 1))
        self.assertEqual(number(0), (0, 1))

    def test_second_0_is_refused(self):
        for top in (-1, 0, 1, LONG):
            with self.assertRaises(NoNumber):
                number(top, 0)

    def test_what_is_no_whole_number_is_refused(self):
        odd = [thing for thing in things() if isinstance(thing, bool) or not isinstance(thing, int)]
        self.assertGreater(len(odd), 30)
        for thing in odd:
            for call in (lambda: number(thing), lambda: number(thing, 2), lambda: number(2, thing),
                         lambda: number(thing, 0), lambda: number(thing, thing)):
                with self.assertRaises(NoNumber):
                    call()

    def test_what_is_handed_in_stays(self):
        for thing in ([1], {"a": [2]}):
            with self.assertRaises(NoNumber):
                kept(self, number, thing, thing)
        self.assertEqual(thing, {"a": [2]})


class Kinds(unittest.TestCase):
    def test_is_whole(self):
        for thing in things():
            self.assertIs(is_whole(thing), isinstance(thing, int) and thing is not True and thing is not False)

    def test_is_number(self):
        for one in ONES + [(0, 1), (1, 1), (-1, 1), (10 ** 100, 3), (5, 10 ** 100 + 1), (-1, 2)]:
            self.assertIs(is_number(one), True, one)

    def test_is_no_number(self):
        for thing in things():
            self.assertIs(is_number(thing), False)
        for thing in ((1, 0), (0, 0), (0, 2), (2, 2), (2, 4), (1, -1), (-1, -2), (6, 3), (True, 1), (1, True), (1, None),
                      (None, 1), ("1", 1), (1, "1"), [1, 2], (1, 2, 3), (1,), ([1], 2), (10 ** 50, 10)):
            self.assertIs(is_number(thing), False, thing)


class Reckoned(unittest.TestCase):
    def test_sum_difference_product_quotient(self):
        for one in ONES:
            for other in ONES:
                left = Fraction(*one)
                right = Fraction(*other)
                self.assertEqual(plus(one, other), told(left + right))
                self.assertEqual(minus(one, other), told(left - right))
                self.assertEqual(times(one, other), told(left * right))
                if right:
                    self.assertEqual(over(one, other), told(left / right))

    def test_a_quotient_by_0_is_refused(self):
        for one in ONES:
            with self.assertRaises(NoNumber):
                over(one, (0, 1))

    def test_under(self):
        for one in ONES:
            for other in ONES:
                self.assertIs(under(one, other), Fraction(*one) < Fraction(*other))
        self.assertIs(under((1, 3), (1, 3)), False)
        self.assertIs(under((-1, 2), (-1, 3)), True)
        self.assertIs(under((-1, 3), (-1, 2)), False)

    def test_floor_of(self):
        for one in ONES:
            self.assertEqual(floor_of(one), floor(Fraction(*one)))
        self.assertEqual([floor_of(one) for one in ((-1, 2), (-1, 1), (-3, 2), (0, 1), (3, 2), (2, 1))],
                         [-1, -1, -2, 0, 1, 2])

    def test_rounded(self):
        for one in ONES:
            self.assertEqual(rounded(one), floor(Fraction(*one) + Fraction(1, 2)))
        self.assertEqual([rounded(one) for one in ((1, 2), (-1, 2), (3, 2), (-3, 2), (5, 2), (-5, 2))],
                         [1, 0, 2, -1, 3, -2])
        self.assertEqual([rounded(one) for one in ((-4, 1), (0, 1), (4, 1), (1, 3), (-1, 3), (2, 3), (-2, 3))],
                         [-4, 0, 4, 0, 0, 1, -1])

    def test_what_is_told_is_a_number(self):
        for call in (plus, minus, times):
            self.assertIs(is_number(call((1, 2), (1, 2))), True)

    def test_in_order(self):
        ones = [(1, 2), (-1, 3), (2, 1), (1, 3), (-1, 2), (1, 2)]
        self.assertEqual(kept(self, in_order, ones), [(-1, 2), (-1, 3), (1, 3), (1, 2), (1, 2), (2, 1)])
        self.assertEqual(in_order([]), [])


if __name__ == "__main__":
    unittest.main()
