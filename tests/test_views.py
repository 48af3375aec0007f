"""Point 23: facets, and the ranks of colour."""

import copy
import unittest

from markscale.errors import NoSpace
from markscale.views import facets_of, ranks_of
from tell import ENDS, ORDER, STRAIGHT, telling
from things import kept, words_many

COLUMNS = [("n", "number"), ("town", "word"), ("kind", "word")]


def rows_of(*pairs):
    return [((at, 1), town, kind) for at, (town, kind) in enumerate(pairs)]


def told_words(*words):
    return ("order", words)


class Views(unittest.TestCase):
    def told(self, call, words, rows, **changed):
        self.assertEqual(kept(self, call, telling(**changed), COLUMNS, rows), words)

    def refused(self, call, rows, **changed):
        whole = telling(**changed)
        before = copy.deepcopy((whole, rows))
        with self.assertRaises(NoSpace):
            call(whole, COLUMNS, rows)
        self.assertEqual((whole, rows), before)


class Facets(Views):
    def test_without_a_facet(self):
        self.told(facets_of, [""], [])
        self.told(facets_of, [""], rows_of(("bern", "a"), (None, "b")), colour=("kind", ORDER))

    def test_by_first_coming(self):
        rows = rows_of(("ulm", "a"), (None, "b"), ("bern", "c"), ("ulm", "d"), ("aarau", "e"), ("bern", "f"))
        self.told(facets_of, ["ulm", "bern", "aarau"], rows, facet=("town", ORDER))
        self.told(facets_of, ["a", "b", "c", "d", "e", "f"], rows, facet=("kind", ORDER))

    def test_told(self):
        for rows in ([], rows_of(("ulm", "a")), rows_of((None, None)), rows_of(("bern", "a"), ("bonn", "b"))):
            self.told(facets_of, ["ulm", "bern"], rows, facet=("town", told_words("ulm", "bern")))
            self.told(facets_of, ["bern"], rows, facet=("town", told_words("bern")))

    def test_none(self):
        self.refused(facets_of, [], facet=("town", ORDER))
        self.refused(facets_of, rows_of((None, "a"), (None, "b")), facet=("town", ORDER))

    def test_twelve_and_thirteen(self):
        for many in (12, 13, 60):
            words = words_many(many)
            rows = rows_of(*[(word, None) for word in words])
            for wish, given in ((ORDER, rows), (told_words(*words), []), (told_words(*words), rows)):
                if many == 12:
                    self.told(facets_of, words, given, facet=("town", wish))
                else:
                    self.refused(facets_of, given, facet=("town", wish))
        # How many rows there are is not what counts.
        self.told(facets_of, words_many(12), rows_of(*[(word, None) for word in words_many(12) * 5]), facet=("town", ORDER))


class Ranks(Views):
    def test_without_colour_by_order(self):
        rows = rows_of(("ulm", "a"), ("bern", "b"))
        self.told(ranks_of, [], rows)
        self.told(ranks_of, [], rows, colour=("n", STRAIGHT))
        self.told(ranks_of, [], rows, colour=("n", ENDS), facet=("town", ORDER))
        # Facets are looked at for a colour by order alone.
        self.told(ranks_of, [], [], facet=("town", ORDER))
        self.told(ranks_of, [], [], colour=("n", STRAIGHT), facet=("town", ORDER))

    def test_by_first_coming(self):
        rows = rows_of(("ulm", "c"), ("bern", None), (None, "a"), ("ulm", "c"), ("bern", "b"), ("bern", "a"))
        self.told(ranks_of, ["c", "a", "b"], rows, colour=("kind", ORDER))
        self.told(ranks_of, ["ulm", "bern"], rows, colour=("town", ORDER))

    def test_told(self):
        for rows in ([], rows_of(("ulm", "a")), rows_of((None, None))):
            self.told(ranks_of, ["b", "a"], rows, colour=("kind", told_words("b", "a")))

    def test_rows_in_no_facet_are_looked_at_no_further(self):
        rows = rows_of((None, "c"), ("ulm", "a"), ("bonn", "d"), ("bern", "b"), ("ulm", "d"))
        self.told(ranks_of, ["a", "b", "d"], rows, colour=("kind", ORDER), facet=("town", told_words("bern", "ulm")))
        self.told(ranks_of, ["a", "d", "b"], rows, colour=("kind", ORDER), facet=("town", ORDER))
        self.told(ranks_of, ["b"], rows, colour=("kind", ORDER), facet=("town", told_words("bern")))
        self.told(ranks_of, ["c"], rows, colour=("kind", told_words("c")), facet=("town", told_words("bern")))

    def test_none(self):
        self.refused(ranks_of, [], colour=("kind", ORDER))
        self.refused(ranks_of, rows_of(("ulm", None)), colour=("kind", ORDER))
        self.refused(ranks_of, rows_of(("ulm", None), (None, "a")), colour=("kind", ORDER), facet=("town", ORDER))
        self.refused(ranks_of, rows_of(("bonn", "a")), colour=("kind", ORDER), facet=("town", told_words("ulm")))

    def test_sixty_and_sixty_one(self):
        words = words_many(61)
        self.told(ranks_of, words[:60], rows_of(*[("ulm", word) for word in words[:60]]), colour=("kind", ORDER))
        self.told(ranks_of, words[:60], [], colour=("kind", told_words(*words[:60])))
        self.refused(ranks_of, rows_of(*[("ulm", word) for word in words]), colour=("kind", ORDER))
        rows = rows_of(*[("ulm", word) for word in words[:60]], (None, words[60]))
        self.told(ranks_of, words[:60], rows, colour=("kind", ORDER), facet=("town", ORDER))

    def test_where_facets_are_refused(self):
        rows = rows_of((None, "a"))
        self.refused(ranks_of, rows, colour=("kind", ORDER), facet=("town", ORDER))
        self.refused(ranks_of, rows, colour=("kind", told_words("a")), facet=("town", ORDER))
        rows = rows_of(*[(word, "a") for word in words_many(13)])
        self.refused(ranks_of, rows, colour=("kind", ORDER), facet=("town", ORDER))
        self.refused(ranks_of, rows, colour=("kind", told_words("a")), facet=("town", told_words(*words_many(13))))


class OwnThings(unittest.TestCase):
    def test_what_is_told_is_the_askers_own(self):
        rows = rows_of(("ulm", "a"), ("bern", "b"))
        for call, part, column in ((facets_of, "facet", "town"), (ranks_of, "colour", "kind")):
            for wish in (ORDER, told_words("ulm", "bern")):
                whole = telling(**{part: (column, wish)})
                first = call(whole, COLUMNS, rows)
                before = list(first)
                first.append("x")
                again = call(whole, COLUMNS, rows)
                self.assertEqual(again, before)
                given = list(rows)
                kept_words = call(whole, COLUMNS, given)
                given.clear()
                self.assertEqual(kept_words, before)
        facets_of(telling(), COLUMNS, rows).append("x")
        self.assertEqual(facets_of(telling(), COLUMNS, rows), [""])
        ranks_of(telling(), COLUMNS, rows).append("x")
        self.assertEqual(ranks_of(telling(), COLUMNS, rows), [])


if __name__ == "__main__":
    unittest.main()
