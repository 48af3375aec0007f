"""Plans: steps that sieve rows, put them into bins and put them together by kinds."""

from markscale.errors import NoPlan
from markscale.figures import is_told
from markscale.makes import made_kind, made_of
from markscale.numbers import floor_of, minus, number, over, plus, times
from markscale.sieves import is_so, is_test
from markscale.tables import are_unlike, column_at, is_word, kind_at, look_at_table

MOST_STEPS = 6
MOST_COLUMNS_BEHIND = 12
MOST_KIND_COLUMNS = 3
MOST_MAKES = 4


def bins_fit(step, columns):
    """Whether a step is one of bins for these columns."""
    if len(step) != 5 or kind_at(columns, step[1]) != "number":
        return False
    if not is_word(step[2]) or column_at(columns, step[2]) is not None:
        return False
    return is_told(step[3]) and is_told(step[4]) and step[4][0] > 0


def is_make(thing, columns):
    """Whether a thing is a tuple (new, word, column) for these columns."""
    if not isinstance(thing, tuple) or len(thing) != 3:
        return False
    kind = kind_at(columns, thing[2])
    return is_word(thing[0]) and is_word(thing[1]) and kind is not None and made_kind(thing[1], kind) is not None


def kinds_fit(step, columns):
    """Whether a step is one of kinds for these columns."""
    if len(step) != 3 or not isinstance(step[1], list) or not isinstance(step[2], list):
        return False
    if len(step[1]) > MOST_KIND_COLUMNS or not 1 <= len(step[2]) <= MOST_MAKES:
        return False
    if not all([kind_at(columns, name) is not None for name in step[1]]):
        return False
    if not all([is_make(make, columns) for make in step[2]]):
        return False
    return are_unlike(step[1] + [make[0] for make in step[2]])


def step_fits(step, columns):
    """Whether a thing is a step for these columns."""
    if not isinstance(step, tuple) or len(step) < 2 or not isinstance(step[0], str):
        return False
    if step[0] == "sieve":
        return len(step) == 2 and is_test(step[1], columns)
    if step[0] == "bins":
        return bins_fit(step, columns)
    return step[0] == "kinds" and kinds_fit(step, columns)


def step_columns(step, columns):
    """The columns behind a step, as a new list."""
    if step[0] == "bins":
        return columns + [(step[2], "number")]
    if step[0] == "kinds":
        made = [(make[0], made_kind(make[1], kind_at(columns, make[2]))) for make in step[2]]
        return [(name, kind_at(columns, name)) for name in step[1]] + made
    return list(columns)


def columns_behind(steps, columns):
    """The columns behind all steps, once they are seen to be a plan for those ahead."""
    if not isinstance(steps, list):
        raise NoPlan(None)
    found = list(columns)
    grouped = False
    for at, step in enumerate(steps):
        if at == MOST_STEPS or not step_fits(step, found):
            raise NoPlan(at)
        if grouped and step[0] == "kinds":
            raise NoPlan(at)
        grouped = grouped or step[0] == "kinds"
        found = step_columns(step, found)
        if len(found) > MOST_COLUMNS_BEHIND:
            raise NoPlan(at)
    return found


def bin_of(cell, begin, width):
    """Where the bin of a cell begins, or None where nothing is there."""
    if cell is None:
        return None
    many = floor_of(over(minus(cell, begin), width))
    return plus(begin, times(number(many), width))


def with_bins(step, columns, pairs):
    """The pairs of rows and sources with the bins' cell at each row's end."""
    at = column_at(columns, step[1])
    return [(pair[0] + (bin_of(pair[0][at], step[3], step[4]),), pair[1]) for pair in pairs]


def by_kinds(names, columns, pairs):
    """A dict of the pairs that are alike in the columns of these names, by the cells there."""
    places = [column_at(columns, name) for name in names]
    groups = {}
    for pair in pairs:
        alike = tuple([pair[0][at] for at in places])
        groups.setdefault(alike, []).append(pair)
    return groups


def put_together(step, columns, pairs):
    """The pairs of rows and sources that a step of kinds makes."""
    groups = by_kinds(step[1], columns, pairs)
    told = []
    for alike in groups:
        cells = list(alike)
        for make in step[2]:
            at = column_at(columns, make[2])
            cells.append(made_of(make[1], [pair[0][at] for pair in groups[alike]]))
        sources = []
        for pair in groups[alike]:
            sources.extend(pair[1])
        told.append((tuple(cells), sorted(sources)))
    return told


def lost_by(step, number_of_step, columns, pairs):
    """The tuples (number, step) of the table's rows that a sieve takes out."""
    lost = []
    for pair in pairs:
        if not is_so(step[1], columns, pair[0]):
            lost.extend([(source, number_of_step) for source in pair[1]])
    return lost


def planned(steps, table):
    """The tuple (columns, rows, sources, lost) that a plan makes of a table."""
    look_at_table(table)
    columns_behind(steps, table[0])
    columns = list(table[0])
    pairs = [(row, [at]) for at, row in enumerate(table[1])]
    lost = []
    for at, step in enumerate(steps):
        if step[0] == "sieve":
            lost.extend(lost_by(step, at, columns, pairs))
            pairs = [pair for pair in pairs if is_so(step[1], columns, pair[0])]
        elif step[0] == "bins":
            pairs = with_bins(step, columns, pairs)
        else:
            pairs = put_together(step, columns, pairs)
        columns = step_columns(step, columns)
    return (columns, [pair[0] for pair in pairs], [pair[1] for pair in pairs], sorted(lost))
