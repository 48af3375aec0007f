"""Point 32: whether a thing is a right drawing."""

import unittest
from fractions import Fraction

from chance import Chance
from fieldwork import whole
from markscale.drawing import drawn
from markscale.errors import NoPlan, NoSpace
from markscale.looker import is_right
from markscale.numbers import is_whole
from markscale.tellingtexts import read_telling
from otherpapers import Others
from plaindraw import Plain
from sheets import table_of
from things import Agreeing, kept, things, told

TOWNS = "n number, m number, w word, v word, d day"
ROWS = f"{TOWNS} | 1, 2, a, x, 2024-01-01 | 5, 1, b, x, 2024-02-01 | 5, 1, b, x, 2024-02-01 | 2, -, a, y, 2024-01-09 | -, 1, c, y, 2024-01-05 | 3, 4, a, -, -"
TELLINGS = (
    "sieve not same n 1; x n straight; left straight; mark dots left m; colour w order; size m straight; facet v order; sheet 600 200",
    "x w order; left straight; right turns 10; mark bars left n; mark words right m v; colour n straight; sheet 400 200",
    "x w order; left broken 0 3 9/2 9; mark heaps left n; colour v order; sheet 400 200",
    "x d days; left straight; right order; mark lines left n; mark bands left n m; mark dots right w; facet v order; sheet 900 300 own",
    "kinds w : s sum n; sieve there s; x w order; left straight 0 20; mark boxes left s; size s straight; sheet 300 200",
    "x n turns 2; left days; mark words left d w; sheet 500 200",
)


def places_in(thing, way=()):
    """The ways to all parts of lists and tuples in a thing, itself ahead."""
    yield way, thing
    if isinstance(thing, (list, tuple)):
        for at, part in enumerate(thing):
            yield from places_in(part, way + (at,))


def put(thing, way, part):
    """A thing with a part in the stead of what stands there; what was handed in stays as it was."""
    if not way:
        return part
    parts = list(thing)
    parts[way[0]] = put(thing[way[0]], way[1:], part)
    return tuple(parts) if isinstance(thing, tuple) else parts


class Looker(unittest.TestCase):
    def setUp(self):
        self.table = table_of(ROWS)

    def papers(self):
        for text in TELLINGS:
            telling = read_telling(text)
            yield telling, drawn(telling, self.table)

    def right(self, telling, paper, table=None):
        self.assertIs(kept(self, is_right, table or self.table, telling, paper), True)

    def wrong(self, telling, paper, table=None):
        self.assertIs(is_right(table or self.table, telling, paper), False, paper)


class Drawn(Looker):
    def test_what_drawn_tells(self):
        for telling, paper in self.papers():
            self.right(telling, paper)
        chance = Chance(32)
        for turn in range(200):
            telling = chance.telling() if turn % 4 else chance.kinds_telling()
            table = chance.table(chance.pick((3, 9, 60)))
            try:
                paper = drawn(telling, table)
            except (NoSpace, NoPlan):
                continue
            self.right(telling, paper, table)

    def test_of_other_frames_ranges_and_ticks(self):
        chance = Chance(33)
        found = 0
        for turn in range(400):
            telling = chance.telling() if turn % 4 else chance.kinds_telling()
            table = chance.table(chance.pick((3, 9, 30)))
            try:
                others = Others(chance, telling, table)
            except (NoSpace, NoPlan):
                continue
            paper = others.paper()
            # Where an order has no words, no axis is found, whoever looks for one.
            axes = ["x"] + others.plain.wished()
            empty = [1 for facet in range(len(others.plain.facets)) for side in axes if others.some_ends(side, facet) == []]
            (self.wrong if empty else self.right)(telling, paper, table)
            found += not empty
        self.assertGreater(found, 200)

    def test_two_tellings_of_one_table(self):
        papers = list(self.papers())
        for telling, _ in papers:
            for other, paper in papers:
                if other != telling:
                    self.wrong(telling, paper)
        self.wrong(papers[0][0], papers[0][1], (self.table[0], self.table[1][:-1]))


class NoDrawing(Looker):
    def test_anything(self):
        telling, paper = next(self.papers())
        for thing in things():
            self.assertIs(is_right(self.table, telling, thing), False)
            for at in range(3):
                self.assertIs(is_right(self.table, telling, paper[:at] + (thing,) + paper[at + 1:]), False)

    def test_anything_in_the_stead_of_a_part(self):
        odd = [None, True, "zz", -1, 10 ** 40, [], (), Agreeing()]
        for telling, paper in self.papers():
            for way, part in places_in(paper):
                for thing in odd:
                    if way and not (isinstance(thing, (int, str, list, tuple)) and thing == part):
                        changed = put(paper, way, thing)
                        # A key may stand at any whole place.
                        free = way[0] == 0 and len(way) == 3 and paper[0][way[1]][0] == "key" and way[2] in (2, 3)
                        self.assertIs(is_right(self.table, telling, changed), free and is_whole(thing), (way, thing))

    def test_shapes_that_are_too_short_or_too_long(self):
        for telling, paper in self.papers():
            for at, shape in enumerate(paper[0]):
                for many in range(len(shape)):
                    self.wrong(telling, put(paper, (0, at), shape[:many]))
                for more in (0, "", None):
                    self.wrong(telling, put(paper, (0, at), shape + (more,)))

    def test_other_kinds_of_lists(self):
        for telling, paper in self.papers():
            self.wrong(telling, list(paper))
            self.wrong(telling, paper + ([],))
            self.wrong(telling, paper[:2])
            for at in range(3):
                self.wrong(telling, paper[:at] + (tuple(paper[at]),) + paper[at + 1:])
            for way, part in places_in(paper):
                if way and isinstance(part, list):
                    self.wrong(telling, put(paper, way, tuple(part)))
                if way and isinstance(part, tuple):
                    self.wrong(telling, put(paper, way, list(part)))


class Changed(Looker):
    def test_each_number(self):
        for telling, paper in self.papers():
            for way, part in places_in(paper):
                if isinstance(part, int):
                    key = way[0] == 0 and len(way) == 3 and paper[0][way[1]][0] == "key" and way[2] in (2, 3)
                    for step in (-1, 1, 1000):
                        (self.right if key else self.wrong)(telling, put(paper, way, part + step))

    def test_truths_for_whole_numbers(self):
        found = 0
        for telling, paper in self.papers():
            for way, part in places_in(paper):
                if isinstance(part, int) and part in (0, 1):
                    self.wrong(telling, put(paper, way, bool(part)))
                    found += 1
        self.assertGreater(found, 30)
        # Also where a key may stand anywhere.
        telling, paper = next(self.papers())
        at = [shape[0] for shape in paper[0]].index("key")
        for place in (2, 3):
            self.right(telling, put(paper, (0, at, place), 1))
            self.wrong(telling, put(paper, (0, at, place), True))

    def test_each_text(self):
        for telling, paper in self.papers():
            for way, part in places_in(paper):
                if isinstance(part, str):
                    for text in (part + " ", part + "a", part[1:], "left" if part == "right" else "right", "0", "a", "straight"):
                        if text != part:
                            self.wrong(telling, put(paper, way, text))

    def middle_tick(self, shapes, at):
        """Whether a shape is a tick that needn't be there: amid others, of no order and no broken axis."""
        if shapes[at][0] != "tick" or shapes[at - 1][0] != "tick" or at + 1 == len(shapes) or shapes[at + 1][0] != "tick":
            return False
        axis = max(other for other in range(at) if shapes[other][0] == "axis")
        return shapes[axis][2] not in ("order", "broken")

    def test_each_shape_taken_out(self):
        for telling, (shapes, behind, lost) in self.papers():
            for at in range(len(shapes)):
                paper = (shapes[:at] + shapes[at + 1:], behind[:at] + behind[at + 1:], lost)
                (self.right if self.middle_tick(shapes, at) else self.wrong)(telling, paper)
                self.wrong(telling, (shapes[:at] + shapes[at + 1:], behind, lost))
                self.wrong(telling, (shapes, behind[:at] + behind[at + 1:], lost))

    def test_each_shape_twice_or_moved(self):
        for telling, (shapes, behind, lost) in self.papers():
            for at in range(len(shapes)):
                self.wrong(telling, (shapes[:at + 1] + shapes[at:], behind[:at + 1] + behind[at:], lost))
                for to in {0, at - 2, at + 2, len(shapes) - 1} - {at}:
                    if 0 <= to < len(shapes):
                        moved, rows = shapes[:at] + shapes[at + 1:], behind[:at] + behind[at + 1:]
                        moved.insert(to, shapes[at])
                        rows.insert(to, behind[at])
                        if moved != shapes or rows != behind:
                            self.wrong(telling, (moved, rows, lost))

    def test_marks_put_in(self):
        for telling, (shapes, behind, lost) in self.papers():
            for at in range(len(shapes) + 1):
                for shape in (("dot", "left", 1, 1, 3, 0), ("line", "left"), ("tick", "x", 50, "1"), ("frame", "", 0, 0, 100, 100),
                              ("legend", "size", "straight"), ("key", "size", 1, 1, "0", 2), ("axis", "right", "straight"), ("axis", "z", "order")):
                    self.wrong(telling, (shapes[:at] + [shape] + shapes[at:], behind[:at] + [[]] + behind[at:], lost))

    def test_rows_behind_and_lost(self):
        for telling, (shapes, behind, lost) in self.papers():
            for at in range(len(behind)):
                for rows in ([], [0], [0, 1], behind[at] + [5], behind[at][1:], behind[at] * 2, behind[at][::-1]):
                    if rows != behind[at]:
                        self.wrong(telling, (shapes, behind[:at] + [rows] + behind[at + 1:], lost))
            for at in range(len(lost)):
                self.wrong(telling, (shapes, behind, lost[:at] + lost[at + 1:]))
                self.wrong(telling, (shapes, behind, lost[:at] + lost[at:at + 1] * 2 + lost[at + 1:]))
                for loss in ((lost[at][0], lost[at][1], "x", "outside"), lost[at][:3], lost[at] + (0,), (0, 0, "sieve", 0)):
                    if loss != lost[at]:
                        self.wrong(telling, (shapes, behind, lost[:at] + [loss] + lost[at + 1:]))
            if len(lost) > 1:
                self.wrong(telling, (shapes, behind, lost[::-1]))
            self.wrong(telling, (shapes, behind, lost + [(0, 0, "x", "nothing")]))


class Given(Looker):
    """Papers in frames and with axes that are told here."""

    TELLING = "x n straight; left straight; mark dots left n; facet w order a b; sheet 300 200"
    TABLE = f"{TOWNS} | 1, 2, a, x, - | 5, 1, b, x, -"

    def plain(self, text=TELLING, table=TABLE):
        self.table = table_of(table)
        self.telling = read_telling(text)
        return Plain(self.telling, self.table)

    def straight(self, low, high, length):
        return (("straight", told(low), told(high), length), [(0, str(low)), (length, str(high))])

    def frame(self, x=0, y=0, width=100, height=100, x_ends=(0, 9), left=(0, 9)):
        return (x, y, width, height, {"x": self.straight(*x_ends, width), "left": self.straight(*left, height)})

    def one_frame(self, text, left, x=None, table=TABLE, length=100):
        plain = self.plain(text, table)
        return plain.paper([(0, 0, 100, length, {"x": x or self.straight(0, 9, 100), "left": left})], plain.spots())


class Frames(Given):
    """Frames at the bounds, and axes that must go together."""

    def test_at_the_bounds(self):
        plain = self.plain()
        for frame in ({}, {"width": 1, "height": 1}, {"width": 4000, "height": 4000}, {"x": 999999, "y": -999999}, {"x": -999999, "y": 999999}):
            self.right(self.telling, plain.paper([self.frame(**frame), self.frame()], []))
            self.right(self.telling, plain.paper([self.frame(), self.frame(**frame)], []))
        for frame in ({"width": 4001}, {"height": 4001}, {"x": 1000000}, {"y": 1000000}, {"x": -1000000}, {"y": -1000000}):
            self.wrong(self.telling, plain.paper([self.frame(**frame), self.frame()], []))
            self.wrong(self.telling, plain.paper([self.frame(), self.frame(**frame)], []))
        for way in ((0, 0, 4), (0, 0, 5)):
            for length in (0, -1):
                self.wrong(self.telling, put(plain.paper([self.frame(), self.frame()], []), way, length))

    def test_frames_may_lie_anywhere(self):
        plain = self.plain()
        self.right(self.telling, plain.paper([self.frame(), self.frame()], []))
        self.right(self.telling, plain.paper([self.frame(500, 3, 77, 20), self.frame(-6, 900, 12, 400)], []))

    def test_one_frame_for_each_facet_with_its_title(self):
        plain = self.plain()
        paper = plain.paper([self.frame(), self.frame()], [])
        for title in ("", "b", "c", "A"):
            self.wrong(self.telling, put(paper, (0, 0, 1), title))
        many = len(paper[0]) // 2
        self.wrong(self.telling, (paper[0][:many], paper[1][:many], paper[2]))
        self.wrong(self.telling, (paper[0] + paper[0][:many], paper[1] + paper[1][:many], paper[2]))
        self.wrong(self.telling, (paper[0][many:] + paper[0][:many], paper[1][many:] + paper[1][:many], paper[2]))
        plain = self.plain("x n straight; left straight; mark dots left n; sheet 300 200")
        paper = plain.paper([self.frame()], [])
        self.right(self.telling, paper)
        self.wrong(self.telling, put(paper, (0, 0, 1), "a"))

    def test_unlike_axes_of_x(self):
        for own in ("", " own"):
            plain = self.plain(self.TELLING + own)
            for ends in ((0, 8), (1, 9), (-1, 9), (0, 10)):
                self.wrong(self.telling, plain.paper([self.frame(), self.frame(x_ends=ends)], []))
                self.right(self.telling, plain.paper([self.frame(x_ends=ends), self.frame(x_ends=ends)], []))
            # Lengths and ticks may be other ones.
            self.right(self.telling, plain.paper([self.frame(width=50), self.frame(width=60)], []))

    def test_unlike_axes_of_a_side(self):
        for own in (False, True):
            plain = self.plain(self.TELLING + (" own" if own else ""))
            for ends in ((0, 8), (1, 9), (-1, 9), (0, 10)):
                paper = plain.paper([self.frame(), self.frame(left=ends)], [])
                (self.right if own else self.wrong)(self.telling, paper)
                self.right(self.telling, plain.paper([self.frame(left=ends), self.frame(left=ends)], []))

    def unlike(self, wish, one, other, x="n straight"):
        """Two axes at a side that are right by themselves, and so with own, but not beside one another without."""
        for own in (False, True):
            column = {"days": "d", "order": "v"}.get(wish.split()[0], "n")
            plain = self.plain(f"x {x}; left {wish}; mark dots left {column}; facet w order a b; sheet 300 200{' own' if own else ''}", ROWS)
            frames = [(0, 0, 100, 100, {"x": self.straight(0, 9, 100), "left": axis}) for axis in (one, other)]
            (self.right if own else self.wrong)(self.telling, plain.paper(frames, []))
            for axis in (one, other):
                self.right(self.telling, plain.paper([frames[0][:4] + ({"x": frames[0][4]["x"], "left": axis},)] * 2, []))

    def test_unlike_turns_and_days(self):
        turns = [(("turns", 10, 0, 1, 100), [(0, "1"), (100, "10")]), (("turns", 10, 0, 2, 100), [(0, "1"), (100, "100")]),
                 (("turns", 10, -1, 2, 100), [(0, "1/10"), (100, "10")])]
        self.unlike("turns 10", turns[0], turns[1])
        self.unlike("turns 10", turns[0], turns[2])
        first, last = table_of(f"{TOWNS} | 1, 1, a, x, 2024-01-01 | 1, 1, a, x, 2024-03-01")[1]
        days = (("days", first[4], last[4], 100), [(0, "2024-01-01"), (100, "2024-03-01")])
        more = (("days", first[4] - 1, last[4], 100), [(0, "2023-12-31"), (100, "2024-03-01")])
        self.unlike("days", days, more)

    def test_pieces_may_have_other_places(self):
        text = "x n straight; left broken 0 3 4 9; mark dots left n; facet w order a b; sheet 300 200"
        plain = self.plain(text)
        axes = []
        for places in ((0, 10, 11, 100), (0, 50, 90, 100)):
            pieces = [(told(0), told(3), *places[:2]), (told(4), told(9), *places[2:])]
            axes.append((("broken", pieces, 100), list(zip(places, "0349"))))
        frames = [(0, 0, 100, 100, {"x": self.straight(0, 9, 100), "left": axis}) for axis in axes]
        self.right(self.telling, plain.paper(frames, []))
        pieces = [(told(0), told(3), 0, 10), (told(5), told(9), 11, 100)]
        other = (0, 0, 100, 100, {"x": self.straight(0, 9, 100), "left": (("broken", pieces, 100), [(0, "0"), (10, "3"), (11, "5"), (100, "9")])})
        self.wrong(self.telling, plain.paper([other, other], []))

    def test_told_ends_are_the_scales(self):
        text = "x n straight; left straight 0 9; mark dots left n; sheet 300 200"
        self.right(read_telling(text), self.one_frame(text, self.straight(0, 9, 100)))
        for ends in ((0, 10), (1, 9), (-1, 9)):
            self.wrong(read_telling(text), self.one_frame(text, self.straight(*ends, 100)))
        # More ticks than the two ends may be there.
        self.right(read_telling(text), self.one_frame(text, (("straight", (0, 1), (9, 1), 100), [(0, "0"), (11, "1"), (100, "9")])))
        text = "x n straight 0 9; left straight; mark dots left n; sheet 300 200"
        self.right(read_telling(text), self.one_frame(text, self.straight(0, 1, 100)))
        self.wrong(read_telling(text), self.one_frame(text, self.straight(0, 1, 100), self.straight(0, 10, 100)))

    def test_rows_beyond_the_range_are_lost(self):
        text = "x n straight; left straight; mark dots left n; sheet 300 200"
        paper = self.one_frame(text, self.straight(0, 4, 100))
        self.assertEqual(paper[2], [(1, 0, "y", "outside")])
        self.right(read_telling(text), paper)

    def test_words_are_the_scales(self):
        table = f"{TOWNS} | 1, 2, b, x, - | 5, 1, a, x, - | 3, 1, b, x, -"

        def order(words):
            return (("order", list(words), 100), [(whole(Fraction(100 * (2 * at + 1), 2 * len(words))), word) for at, word in enumerate(words)])

        first, by_told = "x n straight; left order; mark dots left w; sheet 300 200", "x n straight; left order c a; mark dots left w; sheet 300 200"
        for words in ("ba", "ab", "bac", "b", "ca", "ac"):
            for text, wanted in ((first, "ba"), (by_told, "ca")):
                paper = self.one_frame(text, order(words), table=table)
                (self.right if words == wanted else self.wrong)(read_telling(text), paper)

    def test_words_whose_rounded_places_are_alike(self):
        words = list("abcdefgh")
        text = f"x n straight; left order {' '.join(words)}; mark dots left w; sheet 300 200"
        for length, right in ((1, False), (4, False), (6, False), (7, True), (8, True), (9, True)):
            ticks = [(whole(Fraction((2 * at + 1) * length, 16)), word) for at, word in enumerate(words)]
            paper = self.one_frame(text, (("order", words, length), ticks), length=length)
            (self.right if right else self.wrong)(read_telling(text), paper)


class Ticks(Given):
    """Ticks of a side in one frame."""

    def ticks(self, text, scale, ticks, right):
        paper = self.one_frame(text, (scale, ticks))
        (self.right if right else self.wrong)(read_telling(text), paper)

    def test_straight(self):
        text = "x n straight; left straight; mark dots left n; sheet 300 200"
        scale = ("straight", (0, 1), (9, 1), 100)
        for ticks, right in (([(0, "0"), (100, "9")], True), ([(0, "0"), (33, "3"), (100, "9")], True), ([(0, "0"), (50, "9/2"), (100, "9")], True),
                             ([(0, "0"), (34, "3"), (100, "9")], False), ([(0, "0"), (32, "3"), (100, "9")], False),
                             ([(0, "0"), (1, "1/20"), (100, "9")], True), ([(0, "0"), (0, "1/50"), (100, "9")], False),
                             ([(0, "0"), (33, "3"), (33, "3"), (100, "9")], False), ([(0, "0"), (67, "6"), (33, "3"), (100, "9")], False),
                             ([(0, "0"), (33, "3"), (99, "9")], False), ([(1, "0"), (100, "9")], False), ([(0, "0"), (50, "10"), (100, "9")], False),
                             ([(0, "0"), (33, "3/1"), (100, "9")], False), ([(0, "0"), (33, "03"), (100, "9")], False), ([(0, "0")], False), ([], False),
                             ([(0, "0"), (100, "9"), (111, "10")], False), ([(-11, "-1"), (0, "0"), (100, "9")], False),
                             ([(0, "00"), (100, "9")], False)):
            self.ticks(text, scale, ticks, right)

    def test_ends_within_the_frame(self):
        # From 1 at a tenth to 8 at nine tenths: each at the rounded place of some scale, but not from begin to end.
        text = "x n straight; left straight; mark dots left n; sheet 300 200"
        self.ticks(text, ("straight", (0, 1), (10, 1), 100), [(10, "1"), (90, "9")], False)

    def test_turns(self):
        text = "x n straight; left turns 10; mark dots left n; sheet 300 200"
        scale = ("turns", 10, 0, 2, 100)
        for ticks, right in (([(0, "1"), (100, "100")], True), ([(0, "1"), (50, "10"), (100, "100")], True), ([(0, "1"), (25, "11/2"), (100, "100")], True),
                             ([(0, "1"), (26, "11/2"), (100, "100")], False), ([(0, "1"), (100, "99")], False), ([(0, "1"), (50, "0"), (100, "100")], False)):
            self.ticks(text, scale, ticks, right)
        # By another word than the wish's.
        paper = self.one_frame(text, (("turns", 10, 0, 2, 100), [(0, "1"), (100, "100")]))
        at = paper[0].index(("axis", "left", "turns 10"))
        for word in ("turns 2", "straight", "turns"):
            self.wrong(read_telling(text), put(paper, (0, at, 2), word))

    def test_axes_by_another_word(self):
        # A box between the pieces of a broken axis has no place there; a straight one was wished.
        table = f"{TOWNS} | 1, 1, a, x, - | 9, 1, a, x, -"
        text = "x w order; left straight; mark boxes left n; sheet 300 200"
        ticks = [(0, "0"), (20, "2"), (80, "8"), (100, "10")]
        paper = self.one_frame(text, (("straight", (0, 1), (10, 1), 100), ticks), (("order", ["a"], 100), [(50, "a")]), table)
        self.right(read_telling(text), paper)
        at = paper[0].index(("axis", "left", "straight"))
        for word in ("broken", "turns 2", "turns 10", "days", "order", "straight "):
            self.wrong(read_telling(text), put(paper, (0, at, 2), word))

    def test_days(self):
        text = "x n straight; left days; mark dots left d; sheet 300 200"
        first = table_of(f"{TOWNS} | 1, 1, a, x, 2024-01-01")[1][0][4]
        scale = ("days", first, first + 50, 100)
        for ticks, right in (([(0, "2024-01-01"), (100, "2024-02-20")], True), ([(0, "2024-01-01"), (2, "2024-01-02"), (100, "2024-02-20")], True),
                             ([(0, "2024-01-01"), (3, "2024-01-02"), (100, "2024-02-20")], False), ([(0, "2024-01-01"), (100, "2024-02-30")], False)):
            self.ticks(text, scale, ticks, right)


class Legends(Looker):
    TEXT = "x n straight; left straight; mark dots left m; colour w order; size m straight; sheet 300 200"

    def test_keys_at_whatever_whole_places(self):
        telling = read_telling(self.TEXT)
        paper = drawn(telling, self.table)
        keys = [at for at, shape in enumerate(paper[0]) if shape[0] == "key"]
        self.assertEqual(len(keys), 5)
        for at in keys:
            for place in (0, -5, 10 ** 9):
                self.right(telling, put(put(paper, (0, at, 2), place), (0, at, 3), -place))
        shapes = [shape[:2] + (7, 7) + shape[4:] if shape[0] == "key" else shape for shape in paper[0]]
        self.right(telling, (shapes, paper[1], paper[2]))

    def test_texts_numbers_and_order(self):
        telling = read_telling(self.TEXT)
        paper = drawn(telling, self.table)
        keys = [at for at, shape in enumerate(paper[0]) if shape[0] == "key"]
        for at in keys:
            for part, others in ((1, ("colour", "size")), (4, ("a", "b", "z", "0", "1", "4")), (5, (0, 1, 2, 19, 20, 255))):
                for other in others:
                    if other != paper[0][at][part]:
                        self.wrong(telling, put(paper, (0, at, part), other))
        for at, other in zip(keys, keys[1:]):
            shapes = list(paper[0])
            shapes[at], shapes[other] = shapes[other], shapes[at]
            self.wrong(telling, (shapes, paper[1], paper[2]))

    def test_keys_beyond_the_sheets_height(self):
        # The sheet is too low for the keys that drawn would draw, but the looker chooses no places.
        text = "x n straight; left straight; mark dots left m; colour w order; size m straight; sheet 300 {}"
        paper = drawn(read_telling(text.format(200)), self.table)
        with self.assertRaises(NoSpace):
            drawn(read_telling(text.format(60)), self.table)
        self.right(read_telling(text.format(60)), paper)


class Refused(Looker):
    def test_where_facets_are_refused(self):
        telling = read_telling("x n straight 0 9; left straight 0 9; mark dots left n; facet w order; sheet 300 200")
        paper = drawn(read_telling("x n straight 0 9; left straight 0 9; mark dots left n; sheet 300 200"), table_of(TOWNS))
        for table in (TOWNS, f"{TOWNS} | 1, 1, -, x, -", " | ".join([TOWNS] + [f"1, 1, {word}, x, -" for word in "abcdefghijklm"])):
            self.wrong(telling, paper, table_of(table))
            self.wrong(telling, ([], [], []), table_of(table))

    def test_where_colours_are_refused(self):
        telling = read_telling("x n straight 0 9; left straight 0 9; mark dots left n; colour w order; sheet 300 200")
        plain = read_telling("x n straight 0 9; left straight 0 9; mark dots left n; sheet 300 200")
        for table in (TOWNS, f"{TOWNS} | 1, 1, -, x, -"):
            paper = drawn(plain, table_of(table))
            self.wrong(telling, paper, table_of(table))
            self.wrong(telling, (paper[0] + [("legend", "colour", "order")], paper[1] + [[]], [(0, 0, "colour", "nothing")]), table_of(table))

    def test_sheets_that_are_too_small(self):
        # What drawn refuses for the sheet's sake may be right in other frames.
        text = "x n straight; left straight; mark dots left n; sheet 60 60"
        with self.assertRaises(NoSpace):
            drawn(read_telling(text), self.table)
        self.right(read_telling(text), drawn(read_telling(text.replace("60 60", "300 200")), self.table))


if __name__ == "__main__":
    unittest.main()
