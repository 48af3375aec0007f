"""Boxes: five numbers of the items of one word of x."""

from markscale.fields import bar_ends, by_rank, by_word, parted, put_y
from markscale.numbers import in_order, minus, number, plus, times
from markscale.scales import place_on

QUARTERS = 4


def quarter_of(ordered, many):
    """The number at so many quarters of the way through numbers by size."""
    along = many * (len(ordered) - 1)
    at = along // QUARTERS
    rest = number(along % QUARTERS, QUARTERS)
    # Where nothing is left of the way there may be no next number.
    if rest[0] == 0:
        return ordered[at]
    return plus(ordered[at], times(rest, minus(ordered[at + 1], ordered[at])))


def five_of(numbers):
    """The list of the least, lower, middle, upper and greatest of numbers."""
    ordered = in_order(numbers)
    return [quarter_of(ordered, many) for many in range(QUARTERS + 1)]


def box_of(field, side, items):
    """The box of the items of one word of x, one rank and one colour."""
    ends = bar_ends(field, items[0][1])
    ys = [put_y(field, place_on(field[1], one)) for one in five_of([item[2] for item in items])]
    return (("five", side, ends[0], ends[1], ys, items[0][5]), [item[0] for item in items])


def boxes(field, side, items):
    """The tuple (marks, lost) of a box for each word of x, rank and colour."""
    both = parted(field, items, ("x", "y"))
    marks = []
    for of_word in by_word(field, both[0]):
        marks.extend([box_of(field, side, group) for group in by_rank(of_word)])
    return (marks, both[1])
