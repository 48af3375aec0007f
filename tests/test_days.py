"""Point 6: days, held against Python's own dates."""

import unittest
from datetime import date

from markscale.days import (day_of, is_day, is_told_day, month_begin, month_of, parts_of, read_day, show_day)
from markscale.errors import NoDay
from markscale.numbers import is_whole
from things import things

LAST = 3652058
YEARS = (1, 2, 3, 4, 5, 99, 100, 101, 200, 300, 399, 400, 401, 999, 1000, 1582, 1600, 1700, 1899, 1900, 1904, 1999,
         2000, 2001, 2023, 2024, 2026, 2100, 2400, 4000, 8000, 8999, 9000, 9996, 9998, 9999)


def days_of_years():
    """The days of some years, and some more from all over."""
    found = list(range(0, LAST + 1, 997))
    for year in YEARS:
        first = date(year, 1, 1).toordinal() - 1
        found.extend(range(first, date(year, 12, 31).toordinal()))
    return found


class Days(unittest.TestCase):
    def test_made_and_taken_apart(self):
        for day in days_of_years():
            plain = date.fromordinal(day + 1)
            self.assertEqual(parts_of(day), (plain.year, plain.month, plain.day))
            self.assertEqual(day_of(plain.year, plain.month, plain.day), day)

    def test_first_and_last(self):
        self.assertEqual(day_of(1, 1, 1), 0)
        self.assertEqual(parts_of(0), (1, 1, 1))
        self.assertEqual(day_of(9999, 12, 31), LAST)
        self.assertEqual(parts_of(LAST), (9999, 12, 31))

    def test_end_of_february(self):
        for year in YEARS:
            leap = year % 400 == 0 or (year % 4 == 0 and year % 100 != 0)
            self.assertEqual(day_of(year, 3, 1) - day_of(year, 2, 28), 2 if leap else 1)
            if leap:
                self.assertEqual(parts_of(day_of(year, 2, 29)), (year, 2, 29))
            else:
                with self.assertRaises(NoDay):
                    day_of(year, 2, 29)
            with self.assertRaises(NoDay):
                day_of(year, 2, 30)

    def test_days_that_there_are_not(self):
        odd = [(0, 1, 1), (-1, 1, 1), (10000, 1, 1), (2024, 0, 1), (2024, 13, 1), (2024, -1, 1), (2024, 1, 0),
               (2024, 1, -1), (2024, 1, 32), (2024, 12, 32), (10 ** 5000, 1, 1), (1, 10 ** 5000, 1), (1, 1, 10 ** 5000)]
        odd.extend([(2023, month, 31) for month in (4, 6, 9, 11)])
        for parts in odd:
            with self.assertRaises(NoDay):
                day_of(*parts)
        for month in (1, 3, 5, 7, 8, 10, 12):
            self.assertEqual(parts_of(day_of(2023, month, 31)), (2023, month, 31))
        for month in (4, 6, 9, 11):
            self.assertEqual(parts_of(day_of(2023, month, 30)), (2023, month, 30))

    def test_things_that_make_none(self):
        for thing in [thing for thing in things() if not is_whole(thing) or thing not in (1, 12)]:
            for parts in ((thing, 1, 1), (2024, thing, 1), (2024, 1, thing), (thing, thing, thing)):
                with self.assertRaises(NoDay):
                    day_of(*parts)


class Written(unittest.TestCase):
    def test_shown_and_read(self):
        for day in days_of_years():
            text = date.fromordinal(day + 1).isoformat()
            self.assertEqual(show_day(day), text)
            self.assertEqual(read_day(text), day)

    def test_some_by_hand(self):
        self.assertEqual(show_day(0), "0001-01-01")
        self.assertEqual(show_day(LAST), "9999-12-31")
        self.assertEqual(read_day("0400-02-29"), day_of(400, 2, 29))

    def test_texts_that_write_none(self):
        for text in ("", "-", "--", "2024", "2024-01", "2024-1-1", "2024-01-1", "2024-1-01", "24-01-01", "02024-01-01",
                     "2024-001-01", "2024-01-001", "2024-01-01 ", " 2024-01-01", "2024-01-01\n", "\n2024-01-01",
                     "2024/01/01", "20240101", "2024-0101", "2024-01-01-01", "-2024-01-01", "+024-01-01", "2024-+1-01",
                     "2024-01-+1", "2024- 1-01", "2024-01- 1", "0000-01-01", "2024-00-01", "2024-13-01", "2024-01-00",
                     "2024-01-32", "2023-02-29", "1900-02-29", "2024-04-31", "abcd-01-01", "2024-ab-01", "2024-01-ab",
                     "2_24-01-01", "2024-01-1\n", "2024--1-01"):
            with self.assertRaises(NoDay, msg=repr(text)):
                read_day(text)

    def test_what_is_no_text(self):
        for thing in things() + [(2024, 1, 1), ["2024-01-01"], b"2024-01-01", date(2024, 1, 1)]:
            with self.assertRaises(NoDay):
                read_day(thing)


class Kinds(unittest.TestCase):
    def test_is_day(self):
        for thing in (0, 1, 730119, LAST - 1, LAST):
            self.assertIs(is_day(thing), True)
        for thing in (-1, LAST + 1, 10 ** 100, -(10 ** 100)):
            self.assertIs(is_day(thing), False)

    def test_is_told_day(self):
        first = date(1000, 1, 1).toordinal() - 1
        last = date(8999, 12, 31).toordinal() - 1
        for thing in (first, first + 1, 730119, last - 1, last):
            self.assertIs(is_told_day(thing), True)
        for thing in (0, first - 1, last + 1, LAST, -1, LAST + 1, 10 ** 100):
            self.assertIs(is_told_day(thing), False)

    def test_of_anything(self):
        for thing in things():
            fits = is_whole(thing) and thing in (0, 1, 12)
            self.assertIs(is_day(thing), fits)
            self.assertIs(is_told_day(thing), False)


class Months(unittest.TestCase):
    def test_month_of(self):
        for day in days_of_years():
            plain = date.fromordinal(day + 1)
            self.assertEqual(month_of(day), 12 * plain.year + plain.month - 1)

    def test_month_begin(self):
        for month in list(range(12, 120000, 101)) + [12, 13, 23, 24, 119998, 119999]:
            plain = date(month // 12, month % 12 + 1, 1)
            self.assertEqual(month_begin(month), plain.toordinal() - 1)
            self.assertEqual(month_of(month_begin(month)), month)

    def test_ends(self):
        self.assertEqual(month_of(0), 12)
        self.assertEqual(month_begin(12), 0)
        self.assertEqual(month_of(LAST), 119999)
        self.assertEqual(show_day(month_begin(119999)), "9999-12-01")


if __name__ == "__main__":
    unittest.main()
