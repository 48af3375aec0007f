"""Moves: what comes and goes in a drawing when a row of the table is changed."""

from markscale.drawing import drawn
from markscale.errors import NoTable
from markscale.numbers import is_whole
from markscale.shapes import frame_numbers, is_mark
from markscale.tables import is_row, look_at_table


def marks_in(shapes):
    """The tuples (frame's number, mark) of all marks."""
    numbers = frame_numbers(shapes)
    return [(frame, shape) for frame, shape in zip(numbers, shapes) if is_mark(shape)]


def lacking(marks, others):
    """The marks that others lack, as often; of alike ones the first are held to be there."""
    left = list(others)
    lacked = []
    for mark in marks:
        if mark in left:
            left.remove(mark)
        else:
            lacked.append(mark)
    return lacked


def ground_in(shapes):
    """The shapes that are no marks."""
    return [shape for shape in shapes if not is_mark(shape)]


def with_row(table, number, row):
    """A new table with a row in the stead of the one of that number."""
    return (table[0], table[1][:number] + [row] + table[1][number + 1:])


def moved(telling, table, number, row):
    """The tuple (ground, gone, come) of what moves when a row stands in the stead of another one."""
    look_at_table(table)
    if not is_whole(number) or not 0 <= number < len(table[1]):
        raise NoTable(None)
    if not is_row(row, table[0]):
        raise NoTable(number)
    ahead = drawn(telling, table)[0]
    behind = drawn(telling, with_row(table, number, row))[0]
    gone = lacking(marks_in(ahead), marks_in(behind))
    come = lacking(marks_in(behind), marks_in(ahead))
    return (ground_in(ahead) != ground_in(behind), gone, come)
