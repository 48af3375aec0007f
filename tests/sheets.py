"""Tables and tellings as texts for the tests of drawings, and what is picked out of a drawing."""

import unittest

from markscale.drawing import drawn
from markscale.errors import NoSpace
from markscale.tables import look_at_table
from markscale.tabletexts import read_table
from markscale.tellingtexts import read_telling
from things import kept

GROUND = ("frame", "axis", "tick", "legend", "key")


def table_of(text):
    """A table of a text, its rows parted by bars."""
    return read_table(text.replace(" | ", "\n"))


def shapes_of(paper, head):
    return [shape for shape in paper[0] if shape[0] == head]


def is_ground(shape):
    return shape[0] in GROUND


def marks_of(paper):
    """The tuples (number of the shape, shape, rows behind) of the marks of a drawing."""
    return [(at, shape, rows) for at, (shape, rows) in enumerate(zip(paper[0], paper[1])) if not is_ground(shape)]


def labels_at(paper, side, frame=0):
    """The labels of the ticks of a side in the frame of that number."""
    at = -1
    labels = []
    for shape in paper[0]:
        at += shape[0] == "frame"
        if at == frame and shape[0] == "tick" and shape[1] == side:
            labels.append(shape[3])
    return labels


class Sheets(unittest.TestCase):
    def drawn(self, telling, table):
        """The drawing of a telling and a table, each as it is or as a text."""
        telling = read_telling(telling) if isinstance(telling, str) else telling
        table = table_of(table) if isinstance(table, str) else table
        look_at_table(table)
        return kept(self, drawn, telling, table)

    def no_space(self, telling, table):
        with self.assertRaises(NoSpace):
            self.drawn(telling, table)
