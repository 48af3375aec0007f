"""Points 17 and 18: tellings, and whether they go with columns."""

import copy
import unittest

from markscale.errors import NoTelling
from markscale.tellings import look_at_columns, look_at_telling
from tell import BROKEN, DAYS, ENDS, FORMS, ORDER, PARTS, STRAIGHT, TURNS, WORDS, layer, marked, telling
from things import Agreeing, is_text, kept, things

MARKS = ("dots", "bars", "heaps", "lines", "bands", "boxes", "words")
ANY = ("straight", "turns", "broken", "days", "order")
AT_X = {"dots": ANY, "words": ANY, "bars": ("order",), "heaps": ("order",), "boxes": ("order",),
        "lines": ANY[:4], "bands": ANY[:4]}
AT_SIDE = {"dots": ANY, "words": ANY, "bars": ANY[:3], "heaps": ANY[:3], "lines": ANY[:3], "bands": ANY[:3],
           "boxes": ANY[:2]}
COLUMNS = [("n", "number"), ("m", "number"), ("d", "day"), ("e", "day"), ("w", "word"), ("v", "word")]
BY_KIND = {"number": (STRAIGHT, ENDS, TURNS, ("turns", 2), BROKEN), "day": (DAYS,), "word": (ORDER, WORDS)}


class Told(unittest.TestCase):
    def right(self, thing):
        self.assertIsNone(kept(self, look_at_telling, thing))

    def refused(self, thing, part):
        with self.assertRaises(NoTelling) as caught:
            look_at_telling(thing)
        self.assertEqual(caught.exception.part, part, thing)


class Tellings(Told):
    def test_of_every_mark(self):
        for mark in MARKS:
            self.right(marked(mark))

    def test_wishes_at_x(self):
        for mark in MARKS:
            for wish in FORMS:
                if wish[0] in AT_X[mark]:
                    self.right(marked(mark, x=wish))
                else:
                    self.refused(marked(mark, x=wish), "layers")

    def test_wishes_at_the_side(self):
        for mark in MARKS:
            for wish in FORMS:
                if wish[0] in AT_SIDE[mark]:
                    self.right(marked(mark, side=wish))
                else:
                    self.refused(marked(mark, side=wish), "layers")

    def test_each_layer_by_its_own_side(self):
        both = (layer("dots", "left"), layer("bars", "right"))
        self.right(telling(x=("a", ORDER), sides=(DAYS, TURNS), layers=both))
        self.refused(telling(x=("a", ORDER), sides=(TURNS, DAYS), layers=both), "layers")
        self.refused(telling(x=("a", ORDER), sides=(STRAIGHT, STRAIGHT), layers=both + (layer("lines"),)), "layers")
        self.refused(telling(x=("a", STRAIGHT), sides=(STRAIGHT, STRAIGHT), layers=both), "layers")

    def test_no_tuple_of_eight(self):
        whole = telling()
        for thing in (whole[:7], whole + (None,), list(whole), (), "telling", None, {}, (whole,), 8):
            self.refused(thing, None)

    def test_anything(self):
        for thing in things():
            self.refused(thing, None)
            for at, part in enumerate(PARTS):
                if thing is None and part in ("colour", "size", "facet"):
                    continue
                if part == "steps" and isinstance(thing, list):
                    self.assertIsNone(look_at_telling(telling(steps=thing)))
                    continue
                self.refused(telling(**{part: thing}), part)
            self.refused((thing,) * 8, "x" if isinstance(thing, list) else "steps")
            self.assertIsNone(look_at_telling(telling(steps=[thing] * 6)))

    def test_things_within_parts(self):
        for thing in things():
            self.refused(telling(x=("a", thing)), "x")
            self.refused(telling(layers=(thing,)), "layers")
            self.refused(telling(layers=((thing, "left", "b", None),)), "layers")
            self.refused(telling(layers=((thing, "left", "b", "c"),)), "layers")
            self.refused(telling(layers=(("dots", thing, "b", None),)), "layers")
            if not is_text(thing, "a", "number"):
                self.refused(telling(x=(thing, STRAIGHT)), "x")
                self.refused(telling(layers=(("dots", "left", thing, None),)), "layers")
                self.refused(telling(layers=(("words", "left", "b", thing),)), "layers")
            if thing is not None:
                self.refused(telling(sides=(STRAIGHT, thing)), "sides")
                self.refused(telling(layers=(("dots", "left", "b", thing),)), "layers")
            self.refused(telling(colour=("a", thing)), "colour")
            self.refused(telling(size=("a", thing)), "size")
            self.refused(telling(facet=("a", thing)), "facet")
            self.refused(telling(sheet=(thing, 100, False)), "sheet")
            self.refused(telling(sheet=(100, thing, False)), "sheet")
            if not isinstance(thing, bool):
                self.refused(telling(sheet=(100, 100, thing)), "sheet")

    def test_steps(self):
        self.right(telling(steps=[1, 2, 3, 4, 5, 6]))
        self.refused(telling(steps=[1, 2, 3, 4, 5, 6, 7]), "steps")
        self.refused(telling(steps=()), "steps")
        self.refused(telling(steps=None), "steps")
        self.refused(telling(steps=(("sieve", ("there", "a")),)), "steps")

    def test_x(self):
        for thing in (None, ("a",), ("a", STRAIGHT, None), ["a", STRAIGHT], ("A", STRAIGHT), ("", STRAIGHT),
                      ("a", ("straight", (0, 1))), ("a", "straight"), (None, STRAIGHT), ("abcdefghi", STRAIGHT)):
            self.refused(telling(x=thing), "x")

    def test_sides(self):
        for thing in (None, (), (STRAIGHT,), (STRAIGHT, None, None), [STRAIGHT, None], ("straight", None),
                      (STRAIGHT, ("turns", 3)), (STRAIGHT, False), (False, STRAIGHT), STRAIGHT):
            self.refused(telling(sides=thing), "sides")
        self.refused(telling(sides=(None, None)), "layers")
        self.refused(telling(sides=(None, None), layers=()), "layers")
        self.refused(telling(sides=(None, STRAIGHT)), "layers")
        self.refused(telling(sides=(STRAIGHT, STRAIGHT)), "layers")
        self.right(telling(sides=(None, STRAIGHT), layers=(layer("dots", "right"),)))
        self.right(telling(sides=(STRAIGHT, DAYS), layers=(layer("dots", "right"), layer("dots", "left"))))
        self.refused(telling(sides=(None, STRAIGHT), layers=(layer("dots", "right"), layer("dots", "left"))), "layers")
        self.refused(telling(sides=(STRAIGHT, None), layers=(layer("dots", "right"),)), "layers")

    def test_layers(self):
        one = layer("dots")
        self.right(telling(layers=(one, one, one)))
        for thing in (None, (), [one], one, (one,) * 4, (list(one),), (one[:3],), (one + (None,),),
                      (("dot", "left", "b", None),), (("", "left", "b", None),), (("dots", "Left", "b", None),),
                      (("dots", "top", "b", None),), (("dots", "left", "B", None),), (("dots", "left", None, None),),
                      (one, ("dots", "left", "b", "c")), (("bars", "left", "b", None),), (one, None)):
            self.refused(telling(layers=thing), "layers")
        for mark in MARKS:
            whole = marked(mark)
            for other in (None, "c", "", "C", 0, False):
                changed = whole[:3] + ((whole[3][0][:3] + (other,),),) + whole[4:]
                if (other == "c") if mark in ("bands", "words") else (other is None):
                    self.right(changed)
                else:
                    self.refused(changed, "layers")

    def test_heaps_want_a_colour_by_order(self):
        heaps = dict(x=("a", ORDER), layers=(layer("bars"), layer("heaps")))
        self.right(telling(colour=("d", ORDER), **heaps))
        self.right(telling(colour=("d", WORDS), **heaps))
        for colour in (None, ("d", STRAIGHT), ("d", ENDS), ("d", TURNS), ("d",)):
            self.refused(telling(colour=colour, **heaps), "colour")
        self.refused(telling(colour=None, size=7, facet=7, sheet=7, **heaps), "colour")

    def test_channels(self):
        for part, wishes in (("colour", (STRAIGHT, ENDS, ORDER, WORDS)), ("size", (STRAIGHT, ENDS)), ("facet", (ORDER, WORDS))):
            self.right(telling(**{part: None}))
            for wish in FORMS:
                if wish in wishes:
                    self.right(telling(**{part: ("d", wish)}))
                else:
                    self.refused(telling(**{part: ("d", wish)}), part)
            for thing in ((), ("d",), ["d", wishes[0]], ("D", wishes[0]), ("d", wishes[0], 1), (None, wishes[0]), False, "d"):
                self.refused(telling(**{part: thing}), part)

    def test_sheets(self):
        for size in (60, 61, 1999, 2000):
            self.right(telling(sheet=(size, 100, False)))
            self.right(telling(sheet=(100, size, True)))
        for size in (59, 2001, 0, -60, True, "100", (100, 1), None, 10 ** 30):
            self.refused(telling(sheet=(size, 100, False)), "sheet")
            self.refused(telling(sheet=(100, size, False)), "sheet")
        for own in (0, 1, None, "own", [], (True,), Agreeing()):
            self.refused(telling(sheet=(100, 100, own)), "sheet")
        for thing in (None, (), (100, 100), (100, 100, False, False), [100, 100, False]):
            self.refused(telling(sheet=thing), "sheet")

    def test_the_first_part_is_named(self):
        bad = dict(zip(PARTS, (7,) * 8))
        for at, part in enumerate(PARTS):
            self.refused(telling(**{name: bad[name] for name in PARTS[at:]}), part)
        # A mark that its wishes don't suit is looked at with the layers, ahead of colour.
        self.refused(telling(layers=(layer("heaps"),), colour=None), "layers")


class Columns(Told):
    def goes(self, thing):
        self.assertIsNone(kept(self, look_at_columns, thing, COLUMNS), thing)

    def lacks(self, thing, part, columns=COLUMNS):
        look_at_telling(thing)
        with self.assertRaises(NoTelling) as caught:
            look_at_columns(thing, columns)
        self.assertEqual(caught.exception.part, part, thing)

    def plain(self, **changed):
        parts = dict(x=("n", STRAIGHT), layers=(("dots", "left", "m", None),))
        parts.update(changed)
        return telling(**parts)

    def test_x(self):
        for name, kind in COLUMNS + [("lack", None)]:
            for wish in FORMS:
                if kind is not None and wish in BY_KIND[kind]:
                    self.goes(self.plain(x=(name, wish)))
                else:
                    self.lacks(self.plain(x=(name, wish)), "x")

    def test_layers(self):
        for name, kind in COLUMNS + [("lack", None)]:
            for wish in FORMS:
                for sides, side in (((wish, None), "left"), ((None, wish), "right")):
                    whole = self.plain(sides=sides, layers=(("dots", side, name, None),))
                    if kind is not None and wish in BY_KIND[kind]:
                        self.goes(whole)
                    else:
                        self.lacks(whole, "layers")

    def test_layers_by_their_own_sides(self):
        layers = (("dots", "right", "d", None), ("dots", "left", "w", None), ("dots", "right", "e", None))
        self.goes(self.plain(sides=(ORDER, DAYS), layers=layers))
        self.lacks(self.plain(sides=(DAYS, ORDER), layers=layers), "layers")
        self.lacks(self.plain(sides=(ORDER, DAYS), layers=layers[:2] + (("dots", "right", "w", None),)), "layers")
        self.lacks(self.plain(sides=(ORDER, DAYS), layers=(layers[0], layers[1], ("dots", "right", "lack", None))), "layers")

    def test_others(self):
        for name, kind in COLUMNS + [("lack", None)]:
            bands = self.plain(layers=(("bands", "left", "m", name),))
            self.goes(bands) if kind == "number" else self.lacks(bands, "layers")
            for column, wish in (("m", STRAIGHT), ("d", DAYS), ("w", ORDER), ("m", BROKEN)):
                words = self.plain(sides=(wish, None), layers=(("words", "left", column, name),))
                self.goes(words) if kind == "word" else self.lacks(words, "layers")
        for mark in ("bars", "boxes"):
            self.goes(self.plain(x=("w", ORDER), layers=((mark, "left", "n", None),)))

    def test_channels(self):
        for part, wishes in (("colour", (STRAIGHT, ENDS, ORDER, WORDS)), ("size", (STRAIGHT, ENDS)), ("facet", (ORDER, WORDS))):
            for name, kind in COLUMNS + [("lack", None)]:
                for wish in wishes:
                    whole = self.plain(**{part: (name, wish)})
                    if kind is not None and wish in BY_KIND[kind]:
                        self.goes(whole)
                    else:
                        self.lacks(whole, part)

    def test_in_the_order_of_parts(self):
        bad = [("x", ("lack", STRAIGHT)), ("layers", (("dots", "left", "lack", None),)), ("colour", ("lack", ORDER)),
               ("size", ("lack", STRAIGHT)), ("facet", ("lack", ORDER))]
        for at, pair in enumerate(bad):
            self.lacks(self.plain(**dict(bad[at:])), pair[0])

    def test_one_column_many_times(self):
        self.goes(self.plain(x=("n", STRAIGHT), layers=(("dots", "left", "n", None),), colour=("n", STRAIGHT), size=("n", STRAIGHT)))

    def test_twelve_columns(self):
        columns = COLUMNS + [("c" + letter, "number") for letter in "abcdef"]
        self.assertIsNone(look_at_columns(self.plain(x=("cf", TURNS)), columns))
        self.lacks(self.plain(x=("cg", TURNS)), "x", columns)

    def test_columns_behind_are_looked_at_alone(self):
        whole = self.plain(steps=[("kinds", ["w"], [("z", "count", "n")])])
        before = copy.deepcopy(whole)
        self.goes(whole)
        self.lacks(whole, "x", [("w", "word"), ("z", "number")])
        self.assertEqual(whole, before)


if __name__ == "__main__":
    unittest.main()
