"""Marks that stand on a base above a word of x: bars, and heaps of their parts."""

from markscale.fields import bar_ends, base_on, by_word, loss_of, parted, put_y, y_of
from markscale.numbers import number, plus
from markscale.scales import place_on


def bars(field, side, items):
    """The tuple (marks, lost) of a bar for each item."""
    both = parted(field, items, ("x", "y"))
    base = put_y(field, base_on(field[1]))
    marks = []
    for item in both[0]:
        ends = bar_ends(field, item[1])
        shape = ("bar", side, ends[0], ends[1], base, y_of(field, item), item[5])
        marks.append((shape, [item[0]]))
    return (marks, both[1])


def loss_ahead(field, item):
    """What is told of an item that comes into no heap, whatever the others are, or None."""
    loss = loss_of(field, item, ("x",))
    if loss is not None:
        return loss
    if item[2] is None:
        return (item[0], "y", "nothing")
    return (item[0], "y", "below") if item[2][0] < 0 else None


def heap_of(field, side, items):
    """The tuple (marks, lost) of the heap of one word of x."""
    ends = bar_ends(field, items[0][1])
    total = number(0)
    begin = put_y(field, base_on(field[1]))
    marks = []
    lost = []
    for item in sorted(items, key=lambda item: (item[4], item[0])):
        place = place_on(field[1], plus(total, item[2]))
        if isinstance(place, str):
            lost.append((item[0], "y", place))
        else:
            end = put_y(field, place)
            marks.append((("part", side, ends[0], ends[1], begin, end, item[5]), [item[0]]))
            total = plus(total, item[2])
            begin = end
    return (marks, lost)


def heaps(field, side, items):
    """The tuple (marks, lost) of a heap of parts for each word of x."""
    losses = [loss_ahead(field, item) for item in items]
    lost = [loss for loss in losses if loss is not None]
    marks = []
    for group in by_word(field, [item for item, loss in zip(items, losses) if loss is None]):
        both = heap_of(field, side, group)
        marks.extend(both[0])
        lost.extend(both[1])
    return (marks, sorted(lost))
