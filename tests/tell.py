"""Tellings for the tests: a plain one, and what is changed of it."""

PARTS = ("steps", "x", "sides", "layers", "colour", "size", "facet", "sheet")
STRAIGHT = ("straight",)
ENDS = ("straight", (0, 1), (10, 1))
TURNS = ("turns", 10)
BROKEN = ("broken", (((0, 1), (10, 1)), ((50, 1), (60, 1))))
DAYS = ("days",)
ORDER = ("order",)
WORDS = ("order", ("b", "a", "c"))
FORMS = (STRAIGHT, ENDS, TURNS, ("turns", 2), BROKEN, DAYS, ORDER, WORDS)


def telling(**changed):
    """A telling of dots, with these parts in the stead of its own."""
    parts = {"steps": [], "x": ("a", STRAIGHT), "sides": (STRAIGHT, None), "layers": (("dots", "left", "b", None),),
             "colour": None, "size": None, "facet": None, "sheet": (300, 200, False)}
    parts.update(changed)
    return tuple([parts[part] for part in PARTS])


def layer(mark, side="left", column="b"):
    """A layer of a mark, with an other where the mark has one."""
    return (mark, side, column, "c" if mark in ("bands", "words") else None)


def marked(mark, x=None, side=None):
    """A telling of one mark, with wishes that go with it where none are told."""
    if x is None:
        x = ORDER if mark in ("bars", "heaps", "boxes") else STRAIGHT
    colour = ("d", ORDER) if mark == "heaps" else None
    return telling(x=("a", x), sides=(side or STRAIGHT, None), layers=(layer(mark),), colour=colour)
