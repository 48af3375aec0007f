"""Kinds of tables, and two tellings held against one another on each table of a kind."""

from markscale.drawing import drawn
from markscale.errors import NoPlan, NoSpace, NoTable, NoTelling, TooMany
from markscale.numbers import is_whole
from markscale.tables import are_columns, are_unlike, is_cell

MOST_CELLS = 4
MOST_KIND_ROWS = 3
MOST_TABLES = 60


def are_cells(kind, thing):
    """Whether a thing is a list of one to four unlike cells of a kind."""
    if not isinstance(thing, list) or not 1 <= len(thing) <= MOST_CELLS:
        return False
    return all([is_cell(kind, cell) for cell in thing]) and are_unlike(thing)


def is_kind(thing):
    """Whether a thing is a kind of tables."""
    if not isinstance(thing, tuple) or len(thing) != 3 or not are_columns(thing[0]):
        return False
    if not isinstance(thing[1], list) or len(thing[1]) != len(thing[0]):
        return False
    if not all([are_cells(column[1], cells) for column, cells in zip(thing[0], thing[1])]):
        return False
    return is_whole(thing[2]) and 0 <= thing[2] <= MOST_KIND_ROWS


def how_many(kind):
    """How many tables a kind has."""
    rows = 1
    for cells in kind[1]:
        rows = rows * len(cells)
    tables = 1
    of_so_many_rows = 1
    for turn in range(kind[2]):
        of_so_many_rows = of_so_many_rows * rows
        tables += of_so_many_rows
    return tables


def each_with(lists, things):
    """All lists with each thing at the end, the lists' order ahead of that of the things."""
    longer = []
    for one in lists:
        longer.extend([one + [thing] for thing in things])
    return longer


def rows_of(cells):
    """All rows of these lists of cells, in order."""
    rows = [[]]
    for column in cells:
        rows = each_with(rows, column)
    return [tuple(row) for row in rows]


def tables_of(kind):
    """All tables of a kind, in order."""
    if not is_kind(kind):
        raise NoTable(None)
    if how_many(kind) > MOST_TABLES:
        raise TooMany("a kind has at most sixty tables")
    # A kind without rows may have more rows to choose of than could be listed.
    rows = rows_of(kind[1]) if kind[2] > 0 else []
    lists = [[]]
    tables = [(list(kind[0]), [])]
    for turn in range(kind[2]):
        lists = each_with(lists, rows)
        tables.extend([(list(kind[0]), list(one)) for one in lists])
    return tables


def outcome_of(telling, table):
    """What comes of drawing: a tuple of a word and the shapes, of a refusal the word alone."""
    try:
        return ("drawn", drawn(telling, table)[0])
    except NoTelling:
        return ("telling",)
    except NoPlan:
        return ("plan",)
    except NoSpace:
        return ("space",)


def parting(one, other, kind):
    """The tuple (number, table) of the first table of a kind that two tellings don't draw alike, or None."""
    for number, table in enumerate(tables_of(kind)):
        if outcome_of(one, table) != outcome_of(other, table):
            return (number, table)
    return None
