"""Tables as texts: a row of columns, then a row for each row of cells."""

from markscale.days import read_day, show_day
from markscale.errors import NoDay, NoNumber, NoTable
from markscale.figures import read_number, show_number
from markscale.tables import MOST_ROWS, are_columns, is_cell

BETWEEN = ", "
NOTHING = "-"


def show_cell(kind, cell):
    """The text that writes a cell of a kind."""
    if cell is None:
        return NOTHING
    if kind == "number":
        return show_number(cell)
    if kind == "day":
        return show_day(cell)
    return cell


def read_thing(kind, text):
    """The number, day or word that a text writes, also one that is too long for a cell."""
    if kind == "number":
        return read_number(text)
    if kind == "day":
        return read_day(text)
    return text


def read_cell(kind, text):
    """The cell of a kind that a text writes."""
    if not isinstance(text, str):
        raise NoTable(None)
    if text == NOTHING:
        return None
    try:
        cell = read_thing(kind, text)
    except (NoNumber, NoDay):
        raise NoTable(None) from None
    if not is_cell(kind, cell):
        raise NoTable(None)
    return cell


def show_row(columns, row):
    """The text that writes a row of cells."""
    return BETWEEN.join([show_cell(column[1], cell) for column, cell in zip(columns, row)])


def show_table(table):
    """The text that writes a table."""
    columns = BETWEEN.join([" ".join(column) for column in table[0]])
    return "\n".join([columns] + [show_row(table[0], row) for row in table[1]])


def read_columns(text):
    """The columns that a table's first row writes."""
    columns = [tuple(piece.split(" ")) for piece in text.split(BETWEEN)]
    if not are_columns(columns):
        raise NoTable(None)
    return columns


def read_row(columns, text, at):
    """The row of cells that a text writes, as row number at."""
    pieces = text.split(BETWEEN)
    if at >= MOST_ROWS or len(pieces) != len(columns):
        raise NoTable(at)
    try:
        return tuple([read_cell(column[1], piece) for column, piece in zip(columns, pieces)])
    except NoTable:
        raise NoTable(at) from None


def read_table(text):
    """The table that a text writes."""
    if not isinstance(text, str):
        raise NoTable(None)
    rows = text.split("\n")
    columns = read_columns(rows[0])
    return (columns, [read_row(columns, row, at) for at, row in enumerate(rows[1:])])
