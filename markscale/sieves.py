"""Tests: what is asked of a row, as nested tuples."""

from markscale.tables import column_at, comes_before, is_cell, kind_at

MOST_PARTS = 20


def is_cell_part(part, columns):
    """Whether a tuple is of a word, a column and a cell that is there and of the column's kind."""
    if len(part) != 3 or part[2] is None:
        return False
    kind = kind_at(columns, part[1])
    return kind is not None and is_cell(kind, part[2])


def is_part(thing, columns):
    """Whether a thing is a test, whatever stands in it in the stead of tests."""
    if not isinstance(thing, tuple) or len(thing) < 2 or not isinstance(thing[0], str):
        return False
    if thing[0] == "there":
        return len(thing) == 2 and kind_at(columns, thing[1]) is not None
    if thing[0] in ("same", "under"):
        return is_cell_part(thing, columns)
    if thing[0] == "not":
        return len(thing) == 2
    return thing[0] in ("both", "one") and len(thing) == 3


def tests_in(part):
    """What stands in a part in the stead of tests."""
    return list(part[1:]) if part[0] in ("not", "both", "one") else []


def is_test(thing, columns):
    """Whether a thing is a test for these columns."""
    # The parts are walked one by one: a thing may be nested deeper than calls may be.
    parts = [thing]
    at = 0
    while at < len(parts):
        if at == MOST_PARTS or not is_part(parts[at], columns):
            return False
        parts.extend(tests_in(parts[at]))
        at += 1
    return True


def is_so(test, columns, row):
    """Whether a test is so of a row."""
    if test[0] == "not":
        return not is_so(test[1], columns, row)
    if test[0] == "both":
        return is_so(test[1], columns, row) and is_so(test[2], columns, row)
    if test[0] == "one":
        return is_so(test[1], columns, row) or is_so(test[2], columns, row)
    cell = row[column_at(columns, test[1])]
    if cell is None:
        return False
    if test[0] == "same":
        return cell == test[2]
    return test[0] == "there" or comes_before(cell, test[2])
