"""Things of many kinds, for what must answer, or refuse, anything."""

import copy
from fractions import Fraction


class Agreeing:
    """A thing that says that it is the same as any other one, and has no hash."""

    __hash__ = None

    def __eq__(self, other):
        return True

    def __ne__(self, other):
        return False


def is_text(thing, *texts):
    """Whether a thing is one of these texts, and not only says so."""
    return isinstance(thing, str) and thing in texts


def looped():
    """A list that holds itself."""
    thing = []
    thing.append(thing)
    return thing


def deep(many, wrap):
    """None, wrapped as many times."""
    thing = None
    for _ in range(many):
        thing = wrap(thing)
    return thing


def things():
    return [
        None, True, False, 0, 1, -1, 12, 10 ** 5000, -(10 ** 5000),
        "", " ", "a", "-", "\n", "Word", "number", "x" * 12000, "1" * 12000,
        [], [None], [1, 2], [[]], ["a"], (), (None,), (1,), (1, 2, 3), ((), ()), ([], []), ({}, []), ("a", "b"),
        {}, {"a": 1}, {1: 2}, {1, 2}, frozenset(), b"", b"12", object(), int, str, len, range(3), ValueError("no"),
        Agreeing(), (Agreeing(), Agreeing()),
        looped(), (looped(), looped()), deep(5000, lambda thing: (thing,)), deep(5000, lambda thing: [thing]),
        deep(5000, lambda thing: ("not", thing)),
    ]


def kept(case, call, *handed):
    """What a call tells, once it is seen that what was handed in stays as it was."""
    before = copy.deepcopy(handed)
    told = call(*handed)
    case.assertEqual(handed, before)
    return told


def told(one, bottom=1):
    """A number as the program has it, of a fraction or of top and bottom."""
    fraction = Fraction(one, bottom)
    return (fraction.numerator, fraction.denominator)


def fraction(number):
    """A number of the program as a fraction."""
    return Fraction(*number)


def words_many(many):
    """As many unlike words of two letters, at most 676."""
    letters = "abcdefghijklmnopqrstuvwxyz"
    return [one + other for one in letters for other in letters][:many]
