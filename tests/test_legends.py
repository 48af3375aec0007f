"""Point 23: the scales of colour and size."""

import unittest

from markscale.legends import colour_scale, size_scale
from tell import ENDS, ORDER, STRAIGHT, WORDS, telling
from things import kept

COLUMNS = [("town", "word"), ("n", "number"), ("m", "number")]
CALLS = ((colour_scale, "colour", 255), (size_scale, "size", 18))


def rows_of(*cells):
    return [("ulm", cell, (7, 1)) for cell in cells]


class Scales(unittest.TestCase):
    def check(self, call, scale, rows, **changed):
        self.assertEqual(kept(self, call, telling(**changed), COLUMNS, rows), scale)

    def test_where_there_is_none(self):
        for rows in ([], rows_of((1, 1), None)):
            self.check(colour_scale, None, rows)
            self.check(colour_scale, None, rows, size=("n", STRAIGHT))
            self.check(colour_scale, None, rows, colour=("town", ORDER))
            self.check(colour_scale, None, rows, colour=("town", WORDS))
            self.check(size_scale, None, rows)
            self.check(size_scale, None, rows, colour=("n", STRAIGHT))

    def test_told_ends(self):
        for call, part, length in CALLS:
            for rows in ([], rows_of((-5, 1), (20, 1)), rows_of(None)):
                self.check(call, ("straight", (0, 1), (10, 1), length), rows, **{part: ("n", ENDS)})

    def test_cells(self):
        for call, part, length in CALLS:
            self.check(call, ("straight", (-5, 2), (9, 1), length), rows_of((1, 1), (9, 1), None, (-5, 2), (9, 1)), **{part: ("n", STRAIGHT)})
            self.check(call, ("straight", (1, 3), (1, 2), length), rows_of((1, 2), (1, 3)), **{part: ("n", STRAIGHT)})

    def test_none_and_nothing_there(self):
        for call, part, length in CALLS:
            for rows in ([], rows_of(None), rows_of(None, None)):
                self.check(call, ("straight", (0, 1), (1, 1), length), rows, **{part: ("n", STRAIGHT)})

    def test_alike_ones(self):
        for call, part, length in CALLS:
            self.check(call, ("straight", (-1, 3), (2, 3), length), rows_of((-1, 3)), **{part: ("n", STRAIGHT)})
            self.check(call, ("straight", (0, 1), (1, 1), length), rows_of((0, 1), None, (0, 1)), **{part: ("n", STRAIGHT)})
            self.check(call, ("straight", (7, 1), (8, 1), length), rows_of((1, 1), (2, 1)), **{part: ("m", STRAIGHT)})

    def test_each_by_its_own_column(self):
        rows = [("ulm", (1, 1), (5, 1)), ("bern", (3, 1), (4, 1))]
        both = dict(colour=("n", STRAIGHT), size=("m", STRAIGHT))
        self.check(colour_scale, ("straight", (1, 1), (3, 1), 255), rows, **both)
        self.check(size_scale, ("straight", (4, 1), (5, 1), 18), rows, **both)

    def test_rows_are_taken_as_they_come(self):
        # Rows that stand in facets are handed in; where none does there are no facets, but still a scale.
        for call, part, length in CALLS:
            self.check(call, ("straight", (0, 1), (1, 1), length), [], facet=("town", ORDER), **{part: ("n", STRAIGHT)})
            self.check(call, ("straight", (1, 1), (2, 1), length), rows_of((1, 1), (2, 1)), facet=("town", ORDER), **{part: ("n", STRAIGHT)})


if __name__ == "__main__":
    unittest.main()
