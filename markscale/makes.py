"""What is made of many cells: how many, their sum, their middle and their like."""

from markscale.numbers import in_order, number, over, plus
from markscale.tables import comes_before

OF_NUMBERS = ("sum", "mean", "middle")
OF_ORDERED = ("least", "greatest")


def made_kind(word, kind):
    """The kind of what a word makes of cells of a kind, or None where they don't go together."""
    if word == "count" or (word in OF_NUMBERS and kind == "number"):
        return "number"
    if word in OF_ORDERED and kind in ("number", "day"):
        return kind
    return None


def sum_of(numbers):
    """The sum of numbers, of none 0."""
    total = number(0)
    for one in numbers:
        total = plus(total, one)
    return total


def mean_of(numbers):
    """The mean of numbers, of one at least."""
    return over(sum_of(numbers), number(len(numbers)))


def middle_of(numbers):
    """The middle one of numbers by size, or the mean of both middle ones."""
    ordered = in_order(numbers)
    half = len(ordered) // 2
    return mean_of(ordered[half:half + 1] if len(ordered) % 2 == 1 else ordered[half - 1:half + 1])


def least_of(cells):
    """The least of cells of one kind, of one at least."""
    least = cells[0]
    for cell in cells:
        if comes_before(cell, least):
            least = cell
    return least


def greatest_of(cells):
    """The greatest of cells of one kind, of one at least."""
    greatest = cells[0]
    for cell in cells:
        if comes_before(greatest, cell):
            greatest = cell
    return greatest


def made_of(word, cells):
    """What a word makes of cells; those with nothing there count for nothing."""
    there = [cell for cell in cells if cell is not None]
    if word == "count":
        return number(len(there))
    if word == "sum":
        return sum_of(there)
    if there == []:
        return None
    if word == "mean":
        return mean_of(there)
    if word == "middle":
        return middle_of(there)
    return least_of(there) if word == "least" else greatest_of(there)
