"""Days: whole numbers from 0, 1 January of the year 1, to 3652058, 31 December of the year 9999."""

from markscale.errors import NoDay
from markscale.figures import are_digits
from markscale.numbers import is_whole

LAST_DAY = 3652058
LAST_YEAR = 9999
FIRST_TOLD_YEAR = 1000
LAST_TOLD_YEAR = 8999
MONTH_LENGTHS = (31, 28, 31, 30, 31, 30, 31, 31, 30, 31, 30, 31)
DAYS_OF_400_YEARS = 146097


def is_leap(year):
    """Whether a year has a 29 February."""
    return year % 4 == 0 and (year % 100 != 0 or year % 400 == 0)


def month_length(year, month):
    """How many days a month of a year has."""
    if month == 2 and is_leap(year):
        return 29
    return MONTH_LENGTHS[month - 1]


def year_begin(year):
    """The first day of a year."""
    ahead = year - 1
    return 365 * ahead + ahead // 4 - ahead // 100 + ahead // 400


def is_day(thing):
    """Whether a thing is a day."""
    return is_whole(thing) and 0 <= thing <= LAST_DAY


def is_told_day(thing):
    """Whether a thing is a day of a year from 1000 to 8999."""
    return is_day(thing) and FIRST_TOLD_YEAR <= parts_of(thing)[0] <= LAST_TOLD_YEAR


def day_of(year, month, day):
    """The day that is told by its year, its month and its number in the month."""
    if not (is_whole(year) and is_whole(month) and is_whole(day)):
        raise NoDay("a day is made of three whole numbers")
    if not (1 <= year <= LAST_YEAR and 1 <= month <= 12 and 1 <= day <= month_length(year, month)):
        raise NoDay("there is no such day")
    ahead = [month_length(year, earlier) for earlier in range(1, month)]
    return year_begin(year) + sum(ahead) + day - 1


def year_of(day):
    """The year in which a day lies."""
    # By years of even length the guess is never too late, and too early by one at most, about New Year.
    year = day * 400 // DAYS_OF_400_YEARS + 1
    return year + 1 if year_begin(year + 1) <= day else year


def parts_of(day):
    """The tuple of a day's year, its month and its number in the month."""
    year = year_of(day)
    month = 1
    left = day - year_begin(year)
    while left >= month_length(year, month):
        left -= month_length(year, month)
        month += 1
    return (year, month, left + 1)


def show_day(day):
    """The text that writes a day: YYYY-MM-DD."""
    parts = parts_of(day)
    return "-".join([str(parts[0]).zfill(4), str(parts[1]).zfill(2), str(parts[2]).zfill(2)])


def read_day(text):
    """The day that a text writes."""
    if not isinstance(text, str):
        raise NoDay("a day is read of a text")
    parts = text.split("-")
    if [len(part) for part in parts] != [4, 2, 2] or not all([are_digits(part) for part in parts]):
        raise NoDay("a day is written as YYYY-MM-DD")
    return day_of(int(parts[0]), int(parts[1]), int(parts[2]))


def month_of(day):
    """The number of a day's month: 12 times the year, and the month less 1."""
    parts = parts_of(day)
    return 12 * parts[0] + parts[1] - 1


def month_begin(month):
    """The first day of the month of that number."""
    return day_of(month // 12, month % 12 + 1, 1)
