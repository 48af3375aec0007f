"""Views of planned rows: the facets in which they stand, and the words that have colours."""

from markscale.errors import NoSpace
from markscale.tables import column_at
from markscale.wishes import MOST_WORDS, words_wished

MOST_FACETS = 12
NO_FACET = ""


def cells_there(columns, rows, name):
    """The cells of a column that are there, in the order of the rows."""
    at = column_at(columns, name)
    return [row[at] for row in rows if row[at] is not None]


def words_of(channel, columns, rows, most):
    """The words of the order that a channel wishes, told or by first coming; one at least, and no more than most."""
    words = words_wished(channel[1], cells_there(columns, rows, channel[0]))
    if not 1 <= len(words) <= most:
        raise NoSpace("an order has no words, or too many")
    return words


def facets_of(telling, columns, rows):
    """The words of the facets, of all planned rows; one without a word where no facet is told."""
    if telling[6] is None:
        return [NO_FACET]
    return words_of(telling[6], columns, rows, MOST_FACETS)


def rows_in_facets(telling, columns, rows):
    """The planned rows that stand in a facet."""
    facets = facets_of(telling, columns, rows)
    if telling[6] is None:
        return list(rows)
    at = column_at(columns, telling[6][0])
    return [row for row in rows if row[at] in facets]


def ranks_of(telling, columns, rows):
    """The words of colour by their ranks, of all planned rows; none where colour is not by order."""
    colour = telling[4]
    if colour is None or colour[1][0] != "order":
        return []
    return words_of(colour, columns, rows_in_facets(telling, columns, rows), MOST_WORDS)
