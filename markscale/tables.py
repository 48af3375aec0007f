"""Tables: tuples (columns, rows), and the cells that stand in them."""

from markscale.days import is_told_day
from markscale.errors import NoTable
from markscale.figures import is_told
from markscale.numbers import under

LETTERS = "abcdefghijklmnopqrstuvwxyz"
KINDS = ("number", "word", "day")
LONGEST_WORD = 8
MOST_COLUMNS = 8
MOST_ROWS = 60


def is_word(thing):
    """Whether a thing is a text of one to eight small letters."""
    if not isinstance(thing, str) or not 1 <= len(thing) <= LONGEST_WORD:
        return False
    return all([sign in LETTERS for sign in thing])


def are_unlike(words):
    """Whether no two words of a list are alike."""
    return len(set(words)) == len(words)


def is_cell(kind, thing):
    """Whether a thing is a cell of a kind; None, nothing, is one of each."""
    if thing is None:
        return True
    if kind == "number":
        return is_told(thing)
    if kind == "day":
        return is_told_day(thing)
    return kind == "word" and is_word(thing)


def is_column(thing):
    """Whether a thing is a tuple of a name and a kind."""
    if not isinstance(thing, tuple) or len(thing) != 2:
        return False
    return is_word(thing[0]) and isinstance(thing[1], str) and thing[1] in KINDS


def are_columns(thing):
    """Whether a thing is a list of columns as a table has them."""
    if not isinstance(thing, list) or not 1 <= len(thing) <= MOST_COLUMNS:
        return False
    return all([is_column(column) for column in thing]) and are_unlike([column[0] for column in thing])


def is_row(thing, columns):
    """Whether a thing is a tuple of a cell for each column."""
    if not isinstance(thing, tuple) or len(thing) != len(columns):
        return False
    return all([is_cell(column[1], cell) for column, cell in zip(columns, thing)])


def look_at_table(thing):
    """Refuse what is no table."""
    if not isinstance(thing, tuple) or len(thing) != 2:
        raise NoTable(None)
    if not are_columns(thing[0]) or not isinstance(thing[1], list):
        raise NoTable(None)
    for at, row in enumerate(thing[1]):
        if at == MOST_ROWS or not is_row(row, thing[0]):
            raise NoTable(at)


def column_at(columns, name):
    """The number of the column of that name, or None."""
    for at, column in enumerate(columns):
        if column[0] == name:
            return at
    return None


def kind_at(columns, name):
    """The kind of the column of that name, or None of whatever names none."""
    if not is_word(name):
        return None
    at = column_at(columns, name)
    return None if at is None else columns[at][1]


def comes_before(one, other):
    """Whether the first cell stands ahead of the second one, of two of one kind that are there."""
    if isinstance(one, tuple):
        return under(one, other)
    return one < other
