"""Marks of one item each that stand at a spot: dots and words."""

from markscale.fields import loss_of, parted, x_of, y_of


def dots(field, side, items):
    """The tuple (marks, lost) of a dot for each item."""
    both = parted(field, items, ("x", "y"))
    marks = []
    for item in both[0]:
        shape = ("dot", side, x_of(field, item), y_of(field, item), item[6], item[5])
        marks.append((shape, [item[0]]))
    return (marks, both[1])


def loss_of_word(field, item):
    """What is told of an item that no word shows, or None."""
    loss = loss_of(field, item, ("x", "y"))
    # What is written stands on no scale; it must be there, and no more.
    if loss is None and item[3] is None:
        return (item[0], "other", "nothing")
    return loss


def words(field, side, items):
    """The tuple (marks, lost) of a written word for each item."""
    marks = []
    lost = []
    for item in items:
        loss = loss_of_word(field, item)
        if loss is None:
            shape = ("word", side, x_of(field, item), y_of(field, item), item[3], item[5])
            marks.append((shape, [item[0]]))
        else:
            lost.append(loss)
    return (marks, lost)
