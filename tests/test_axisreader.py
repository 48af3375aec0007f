"""Point 29: the scale that is read of an axis's word and ticks."""

import random
import unittest

from markscale.axes import axis_for
from markscale.axisreader import scale_read
from markscale.days import show_day
from markscale.errors import NoSpace
from markscale.figures import show_number
from markscale.wishes import axis_word
from things import kept, told, words_many

DAY = 738000
WAYS = ("upright", "level")
LENGTHS = (24, 25, 36, 61, 100, 333, 1000, 2000)


def ticks_of(*labels):
    """Ticks with these labels at places that nothing is read of."""
    return [(7, label) for label in labels]


def power(base, number):
    return show_number(told(base ** number) if number >= 0 else told(1, base ** -number))


class Reader(unittest.TestCase):
    def check(self, word, ticks, length, scale):
        self.assertEqual(kept(self, scale_read, word, ticks, length), scale)

    def none(self, word, ticks, length=100):
        self.assertIsNone(kept(self, scale_read, word, ticks, length))


class AxesThatAreTold(Reader):
    def read_back(self, wish, cells, most=2000):
        found = 0
        for length in LENGTHS + (most,):
            for way in WAYS:
                try:
                    scale, ticks = axis_for(wish, cells, length, way)
                except NoSpace:
                    continue
                self.check(axis_word(wish), ticks, length, scale)
                found += 1
        self.assertGreater(found, 0, wish)

    def test_straight(self):
        chance = random.Random(29)
        for turn in range(40):
            cells = [told(chance.randint(-10 ** 6, 10 ** 6), chance.choice((1, 7, 60, 1000))) for one in range(chance.randint(0, 4))]
            self.read_back(("straight",), cells)
        self.read_back(("straight", (-1, 3), (7, 2)), [])

    def test_turns(self):
        for base in (2, 10):
            for cells in ([], [(1, 1)], [(1, 60), (10 ** 17, 1)], [(3, 1), (9, 1)], [(-1, 1), (5, 7)]):
                self.read_back(("turns", base), cells)

    def test_powers_of_more_than_sixty_figures(self):
        # Labels of an axis write what no cell of a table is; what writes a number is read all the same.
        self.read_back(("turns", 10), [(1, 10 ** 59), (10 ** 59, 1)])
        self.read_back(("turns", 2), [(1, 2 ** 198), (2 ** 198, 1)])

    def test_broken(self):
        pieces = (((0, 1), (1, 1)), ((5, 1), (6, 1)), ((13, 2), (9, 1)), ((100, 1), (101, 1)))
        for many in (2, 3, 4):
            self.read_back(("broken", pieces[:many]), [])

    def test_days(self):
        for cells in ([], [DAY], [DAY, DAY + 3], [DAY, DAY + 400], [365000, 3000000]):
            self.read_back(("days",), cells)

    def test_order(self):
        for many in (1, 2, 7, 60):
            self.read_back(("order",), words_many(many))
        self.read_back(("order", ("c", "a", "b")), [])


class EachWord(Reader):
    def test_straight_from_the_first_label_to_the_last(self):
        self.check("straight", ticks_of("-1/2", "3"), 10, ("straight", (-1, 2), (3, 1), 10))
        # Where ticks stand, and what the labels between are, is not heeded.
        self.check("straight", [(9, "0"), (9, "50"), (2, "-7"), (0, "1")], 10, ("straight", (0, 1), (1, 1), 10))

    def test_days_from_the_first_label_to_the_last(self):
        self.check("days", ticks_of("0001-01-01", "9999-12-31"), 10, ("days", 0, 3652058, 10))
        self.check("days", ticks_of(show_day(DAY), show_day(DAY + 9), show_day(DAY + 1)), 1, ("days", DAY, DAY + 1, 1))

    def test_turns_from_power_to_power(self):
        self.check("turns 2", ticks_of("1/2", "3", "8"), 10, ("turns", 2, -1, 4, 10))
        self.check("turns 10", ticks_of("1/100", "-5", "1"), 10, ("turns", 10, -2, 2, 10))
        self.check("turns 10", ticks_of("1", "10"), 10, ("turns", 10, 0, 1, 10))

    def test_broken_by_its_places(self):
        self.check("broken", [(0, "0"), (40, "10"), (41, "50"), (100, "60")], 100,
                   ("broken", [((0, 1), (10, 1), 0, 40), ((50, 1), (60, 1), 41, 100)], 100))

    def test_order(self):
        self.check("order", ticks_of("b", "a"), 10, ("order", ["b", "a"], 10))
        self.check("order", ticks_of("b"), 10, ("order", ["b"], 10))
        self.check("order", ticks_of(*words_many(60)), 10, ("order", words_many(60), 10))

    def test_lengths(self):
        for word, ticks in (("straight", ticks_of("0", "1")), ("turns 2", ticks_of("1", "2")), ("days", ticks_of("2000-01-01", "2000-01-02")),
                            ("order", ticks_of("a", "b"))):
            for length in (1, 2, 4000):
                self.assertEqual(scale_read(word, ticks, length)[-1], length)
            for length in (0, -1, 4001, 10 ** 30):
                self.none(word, ticks, length)
        for length in (3, 4000):
            self.assertIsNotNone(scale_read("broken", [(0, "0"), (1, "1"), (2, "2"), (length, "3")], length))
        self.none("broken", [(0, "0"), (1, "1"), (2, "2"), (4001, "3")], 4001)


class WhereThereIsNone(Reader):
    WORDS = ("straight", "turns 2", "turns 10", "broken", "days", "order")

    def test_no_ticks(self):
        for word in self.WORDS:
            self.none(word, [])

    def test_one_tick(self):
        for word, label in zip(self.WORDS, ("1", "2", "10", "1", "2000-01-01")):
            self.none(word, [(0, label)])
            self.none(word, [(100, label)])

    def test_labels_that_write_nothing(self):
        for bad in ("", "-", "a", "01", "-0", "2/4", "1/1", "1/0", "+1", " 1", "1 ", "1.5", "2000-01-01", "1/2/3"):
            for at in range(3):
                labels = ["1", "2", "4"]
                labels[at] = bad
                self.none("straight", ticks_of(*labels))
                self.none("turns 2", ticks_of(*labels))
                labels = ["1", "10", "100"]
                labels[at] = bad
                self.none("turns 10", ticks_of(*labels))
            labels = ["0", "1", "2", "3"]
            for at in range(4):
                self.none("broken", list(zip((0, 10, 20, 100), labels[:at] + [bad] + labels[at + 1:])))
        for bad in ("", "1", "2000-1-1", "2000-02-30", "2000-01-011", "20000101", "a", "0000-01-01", "2000-01-02 "):
            for at in range(3):
                labels = ["2000-01-01", "2000-01-02", "2000-01-03"]
                labels[at] = bad
                self.none("days", ticks_of(*labels))
        for bad in ("", "1", "A", "a b", "abcdefghi", "-", "a1"):
            for at in range(3):
                labels = ["a", "b", "c"]
                labels[at] = bad
                self.none("order", ticks_of(*labels))

    def test_first_and_last_labels_of_turns(self):
        for base, no_powers in ((2, ("3", "10", "0", "-1", "-2", "1/3", "2/3", "3/2", "1/10")),
                                (10, ("2", "5", "0", "-1", "-10", "1/2", "1/20", "10/3", "20"))):
            for label in no_powers:
                self.none(f"turns {base}", ticks_of(label, power(base, 6)))
                self.none(f"turns {base}", ticks_of(power(base, -6), label))
                self.check(f"turns {base}", ticks_of(power(base, -6), label, power(base, 6)), 9, ("turns", base, -6, 12, 9))

    def test_powers_beyond(self):
        for base in (2, 10):
            for low, high in ((-200, -199), (-200, 200), (199, 200), (200, 201), (200, 600), (-150, 250)):
                self.check(f"turns {base}", ticks_of(power(base, low), power(base, high)), 50, ("turns", base, low, high - low, 50))
            for low, high in ((-201, -200), (-201, 0), (201, 202), (201, 300), (-200, 201), (0, 401), (200, 601), (-400, -300), (900, 901)):
                self.none(f"turns {base}", ticks_of(power(base, low), power(base, high)))

    def test_ends_that_do_not_rise(self):
        self.none("straight", ticks_of("1", "1"))
        self.none("straight", ticks_of("1", "2", "1/2"))
        self.none("straight", ticks_of("2", "3", "2"))
        self.none("days", ticks_of("2000-01-01", "2000-01-01"))
        self.none("days", ticks_of("2000-01-02", "2000-01-03", "2000-01-01"))
        self.none("turns 2", ticks_of("2", "2"))
        self.none("turns 10", ticks_of("10", "1"))
        self.none("turns 10", ticks_of("1", "100", "1/10"))

    def test_ticks_of_a_broken_one_that_are_not_two_by_two(self):
        labels = [str(one) for one in range(12)]
        places = [0, 10, 20, 30, 40, 50, 60, 70, 80, 90, 95, 100]
        for many in range(13):
            ticks = list(zip(places, labels))[:many]
            if many:
                ticks[-1] = (100, labels[many - 1])
            if many in (4, 6, 8):
                self.assertIsNotNone(scale_read("broken", ticks, 100))
            else:
                self.none("broken", ticks)

    def test_places_of_a_broken_one(self):
        labels = ("0", "1", "2", "3")
        for places in ((1, 10, 20, 100), (0, 10, 20, 99), (0, 10, 20, 101), (0, 0, 20, 100), (0, 10, 100, 100), (0, 20, 20, 100),
                       (0, 20, 10, 100), (0, 10, 9, 100), (0, 100, 100, 100), (100, 20, 10, 0), (0, 30, 100, 40)):
            self.none("broken", list(zip(places, labels)))
        self.assertIsNotNone(scale_read("broken", list(zip((0, 1, 2, 100), labels)), 100))

    def test_labels_of_a_broken_one(self):
        for labels in (("0", "0", "2", "3"), ("0", "1", "1", "3"), ("0", "2", "1", "3"), ("1", "0", "2", "3"), ("0", "1", "3", "3"),
                       ("0", "1", "3", "2")):
            self.none("broken", list(zip((0, 10, 20, 100), labels)))
        self.assertIsNotNone(scale_read("broken", list(zip((0, 10, 20, 100), ("0", "1", "11/10", "3"))), 100))

    def test_words_twice_and_too_many(self):
        self.none("order", ticks_of("a", "a"))
        self.none("order", ticks_of("a", "b", "a"))
        self.none("order", ticks_of(*words_many(61)))
        self.none("order", ticks_of(*words_many(60), "aa"))

    def test_a_word_that_is_no_axis(self):
        for word in ("", "turns", "turns 3", "turns 02", "turns  2", "Straight", "straight ", "day", "number", "x", "order a", "turns 1"):
            self.none(word, ticks_of("1", "2"))
            self.none(word, ticks_of("1", "10"))
            self.none(word, ticks_of("a", "b"))


class OwnThings(unittest.TestCase):
    def test_what_is_told_is_the_askers_own(self):
        for word, ticks in (("order", ticks_of("a", "b")), ("broken", [(0, "0"), (10, "1"), (20, "2"), (100, "3")])):
            first = scale_read(word, ticks, 100)
            again = scale_read(word, ticks, 100)
            before = (again[0], list(again[1]), again[2])
            first[1].clear()
            self.assertEqual(again, before)
            given = list(ticks)
            third = scale_read(word, given, 100)
            given.clear()
            self.assertEqual(third, before)


if __name__ == "__main__":
    unittest.main()
