"""Points 14 and 26: scales as they are wished, and the words of their axes."""

import unittest

from markscale.wishes import axis_word, is_wish
from things import Agreeing, kept, things, told, words_many

WISHES = [
    (("straight",), "straight"),
    (("straight", (0, 1), (1, 60)), "straight"),
    (("straight", (-5, 2), (-2, 1)), "straight"),
    (("straight", (-(10 ** 18 - 1), 1), (10 ** 18 - 1, 1)), "straight"),
    (("turns", 2), "turns 2"),
    (("turns", 10), "turns 10"),
    (("broken", (((0, 1), (10, 1)), ((50, 1), (60, 1)))), "broken"),
    (("broken", (((-1, 1), (-1, 2)), ((0, 1), (1, 3)), ((2, 5), (1, 2)))), "broken"),
    (("broken", tuple([(told(2 * at), told(2 * at + 1)) for at in range(4)])), "broken"),
    (("days",), "days"),
    (("order",), "order"),
    (("order", ("a",)), "order"),
    (("order", ("zz", "aa", "mmmmmmmm")), "order"),
    (("order", tuple(words_many(60))), "order"),
]

NO_WISHES = [
    (), ("",), ("turns",), ("broken",), ("level",), ("Straight",), ("straight ",), (None,), (0,), (True,),
    ["straight"], ["straight", (0, 1), (1, 1)], "straight", [("days",)], (("straight",),), {"straight": 1},
    ("straight", (0, 1)), ("straight", (0, 1), (1, 1), (2, 1)), ("straight", (0, 1), (1, 1), None), ("straight", None),
    ("straight", (1, 1), (1, 1)), ("straight", (2, 1), (1, 1)), ("straight", (2, 4), (1, 1)), ("straight", 0, 1),
    ("straight", (0, 1), (10 ** 18, 1)), ("straight", (-(10 ** 18), 1), (0, 1)), ("straight", (0, 1), (1, 61)),
    ("straight", (0, 1), (True, 1)), ("straight", (False, 1), (1, 1)), ("straight", [0, 1], [1, 1]),
    ("straight", None, None), ("straight", (0, 1), None), ("straight", "0", "1"), ("straight", (0, -1), (1, 1)),
    ("turns", 3), ("turns", 1), ("turns", 0), ("turns", -2), ("turns", 100), ("turns", True), ("turns", (2, 1)),
    ("turns", "2"), ("turns", None), ("turns", 2, 2), ("turns", 10, 1), ("turns", (0, 1), (1, 1)), ("turns", Agreeing()),
    ("broken", ()), ("broken", (((0, 1), (10, 1)),)), ("broken", ((0, 1), (10, 1))),
    ("broken", tuple([(told(2 * at), told(2 * at + 1)) for at in range(5)])),
    ("broken", (((0, 1), (10, 1)), ((10, 1), (60, 1)))), ("broken", (((50, 1), (60, 1)), ((0, 1), (10, 1)))),
    ("broken", (((0, 1), (10, 1)), ((5, 1), (60, 1)))), ("broken", (((0, 1), (0, 1)), ((50, 1), (60, 1)))),
    ("broken", (((0, 1), (10, 1)), ((60, 1), (50, 1)))), ("broken", (((0, 1), (10, 1)), ((50, 1), (50, 1)))),
    ("broken", (((0, 1), (1, 1)), ((2, 1), (3, 1)), ((3, 1), (4, 1)))),
    ("broken", [((0, 1), (10, 1)), ((50, 1), (60, 1))]), ("broken", ([(0, 1), (10, 1)], [(50, 1), (60, 1)])),
    ("broken", (((0, 1), (10, 1)), ((50, 1), (60, 1), (70, 1)))), ("broken", (((0, 1), (10, 1)), ((50, 1),))),
    ("broken", (((0, 1), (10, 1)), None)), ("broken", ((0, 10), (50, 60))), ("broken", (((0, 1), (10, 1)), ((50, 1), None))),
    ("broken", (((0, 1), (10, 1)), ((50, 1), (10 ** 18, 1)))), ("broken", ((0, 1), (10, 1)), ((50, 1), (60, 1))),
    ("turns", 2, 2, 2), ("order", ("a",), 1, 1), ("broken", (((0, 1), (1, 1)), ((2, 1), (3, 1))), 1, 1),
    ("days", 1), ("days", 1, 2), ("days", None), ("days", ()), ("days", (0, 1), (1, 1)),
    ("order", ()), ("order", ["a"]), ("order", "a"), ("order", ("a", "a")), ("order", ("a", "b", "a")),
    ("order", ("",)), ("order", ("A",)), ("order", ("a b",)), ("order", ("abcdefghi",)), ("order", (None,)),
    ("order", ("a", 1)), ("order", (True,)), ("order", ("a", ("b",))), ("order", ("a", [])), ("order", ("a", Agreeing())),
    ("order", tuple(words_many(61))), ("order", ("a",), ("b",)), ("order", "a", "b"), ("order", None),
    ("words", ("a",)), ("level", (0, 1), (1, 1)), (Agreeing(),), (Agreeing(), 2), (Agreeing(), (0, 1), (1, 1)),
]


class Wishes(unittest.TestCase):
    def test_each_form(self):
        for wish, word in WISHES:
            self.assertIs(kept(self, is_wish, wish), True, wish)

    def test_no_wishes(self):
        for thing in NO_WISHES:
            self.assertIs(is_wish(thing), False, thing)

    def test_anything(self):
        for thing in things():
            self.assertIs(is_wish(thing), False)
            for head in ("straight", "turns", "broken", "days", "order"):
                if not (isinstance(thing, tuple) and thing == ("a", "b") and head == "order"):
                    self.assertIs(is_wish((head, thing)), False)
                self.assertIs(is_wish((head, thing, thing)), False)
                self.assertIs(is_wish((head, (thing, thing))), False)

    def test_words_of_axes(self):
        for wish, word in WISHES:
            self.assertEqual(kept(self, axis_word, wish), word)


if __name__ == "__main__":
    unittest.main()
