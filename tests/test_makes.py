"""Point 10: what is made of cells."""

import itertools
import unittest
from fractions import Fraction
from statistics import mean, median

from markscale.days import day_of
from markscale.makes import made_of
from things import kept

DAY = day_of(2024, 2, 29)
POOL = ((1, 2), (-1, 3), (2, 1), (0, 1), (7, 60), (-4, 1), (1, 3))
WORDS = ("count", "sum", "mean", "middle", "least", "greatest")


def told(fraction):
    fraction = Fraction(fraction)
    return (fraction.numerator, fraction.denominator)


class Made(unittest.TestCase):
    def test_of_numbers(self):
        for many in range(1, 5):
            for cells in itertools.product(POOL[:5], repeat=many):
                plain = [Fraction(*cell) for cell in cells]
                made = [made_of(word, list(cells)) for word in WORDS]
                self.assertEqual(made, [told(many), told(sum(plain)), told(mean(plain)), told(median(plain)),
                                        told(min(plain)), told(max(plain))])

    def test_of_many_orders(self):
        for cells in itertools.permutations(POOL, 6):
            self.assertEqual(made_of("middle", list(cells)), told(median([Fraction(*cell) for cell in cells])))

    def test_nothing_counts_for_nothing(self):
        cells = [None, (5, 2), None, (1, 2), (1, 1), None]
        self.assertEqual([kept(self, made_of, word, cells) for word in WORDS],
                         [(3, 1), (4, 1), (4, 3), (1, 1), (1, 2), (5, 2)])

    def test_of_none(self):
        for cells in ([], [None], [None, None, None]):
            self.assertEqual([made_of(word, cells) for word in WORDS], [(0, 1), (0, 1), None, None, None, None])

    def test_of_one(self):
        for cells in ([(5, 2)], [None, (5, 2)]):
            self.assertEqual([made_of(word, cells) for word in WORDS], [(1, 1)] + [(5, 2)] * 5)

    def test_even_and_odd(self):
        self.assertEqual(made_of("middle", [(3, 1), (1, 1), (2, 1)]), (2, 1))
        self.assertEqual(made_of("middle", [(10, 1), (1, 1), (2, 1), (5, 1)]), (7, 2))
        self.assertEqual(made_of("middle", [(1, 3), (1, 2)]), (5, 12))

    def test_of_days(self):
        cells = [DAY, None, DAY + 5, DAY - 400, DAY]
        self.assertEqual(made_of("least", cells), DAY - 400)
        self.assertEqual(made_of("greatest", cells), DAY + 5)
        self.assertEqual(made_of("count", cells), (4, 1))
        self.assertIsNone(made_of("least", [None]))
        self.assertIsNone(made_of("greatest", []))

    def test_count_of_words(self):
        self.assertEqual(made_of("count", ["a", None, "a", "b"]), (3, 1))

    def test_figures_are_not_cut(self):
        cells = [(10 ** 18 - 1, 1)] * 60
        self.assertEqual(made_of("sum", cells), (60 * (10 ** 18 - 1), 1))
        odd = [(1, bottom) for bottom in range(1, 61)]
        self.assertEqual(made_of("mean", odd), told(mean([Fraction(1, bottom) for bottom in range(1, 61)])))


if __name__ == "__main__":
    unittest.main()
