"""Rules of reading: two marks by which a drawing misleads."""

from markscale.makes import sum_of
from markscale.numbers import is_whole, times
from markscale.plans import planned
from markscale.sights import size_without_sign, view_of
from markscale.tables import column_at

RULES = ("nought", "twice", "heaps", "alike", "words")
MISLEADING_MAKES = ("mean", "middle", "least", "greatest")
SPOTS = ("dot", "bar", "word")
HALF_SIGN = 3
HALF_HIGH = 5


def side_of(sight):
    """The side at which a mark stands."""
    return sight.shape[1]


def is_nought(one, other):
    """Whether two bars, or two parts, of one facet and side have lengths that are not as their values are."""
    if one.length is None or one.shape[0] != other.shape[0]:
        return False
    if one.facet != other.facet or side_of(one) != side_of(other) or one.value[0] == 0 or other.value[0] == 0:
        return False
    return times(one.length, size_without_sign(other.value)) != times(other.length, size_without_sign(one.value))


def are_spots(one, other):
    """Whether two marks are dots, bars or words of numbers."""
    return all([sight.shape[0] in SPOTS and sight.value is not None for sight in (one, other)])


def do_places_mislead(one, other):
    """Whether values are alike and their places not, or the other way about."""
    return (one.value == other.value) != (one.place == other.place)


def is_twice(one, other):
    """Whether one colour stands for two words, or one place at two sides for two values or the other way about."""
    # The last part of each mark is its colour; without an order of colours all ranks are one.
    if one.rank != other.rank and one.shape[-1] == other.shape[-1]:
        return True
    if one.facet != other.facet or side_of(one) == side_of(other) or not are_spots(one, other):
        return False
    return do_places_mislead(one, other)


def is_alike(scene, one, other):
    """Whether a value has two places, or a place two values, in unlike facets with scales of their own."""
    if not scene.telling[7][2] or one.facet == other.facet or side_of(one) != side_of(other):
        return False
    return are_spots(one, other) and do_places_mislead(one, other)


def is_overlap(one, other):
    """Whether two words of one facet have an inner place in common."""
    if one.shape[0] != "word" or other.shape[0] != "word" or one.facet != other.facet:
        return False
    wide = HALF_SIGN * (len(one.shape[4]) + len(other.shape[4]))
    return abs(one.shape[2] - other.shape[2]) < wide and abs(one.shape[3] - other.shape[3]) < 2 * HALF_HIGH


def misleading_make(telling, layer):
    """The make of the plan's last step by which the parts of a heaps' layer may not be put together, or None."""
    steps = telling[0]
    if layer[0] != "heaps" or steps == [] or steps[-1][0] != "kinds":
        return None
    names = [channel[0] for channel in (telling[1], telling[4], telling[6]) if channel is not None]
    if sorted(steps[-1][1]) != sorted(set(names)):
        return None
    for make in steps[-1][2]:
        if make[0] == layer[2] and make[1] in MISLEADING_MAKES:
            return make
    return None


def made_together(view, make, heap):
    """What the plan's last step makes of a heap's word, and facet, with the column of colour left out."""
    telling = view.scene.telling
    names = [name for name in telling[0][-1][1] if name != telling[4][0]]
    plan = planned(telling[0][:-1] + [("kinds", names, [make])], view.table)
    wanted = [(telling[1][0], heap[0].word)]
    if telling[6] is not None:
        wanted.append((telling[6][0], view.scene.facets[heap[0].facet]))
    for row in plan[1]:
        if all([row[column_at(plan[0], name)] == cell for name, cell in wanted]):
            return row[-1]
    return None


def heaps_of(view):
    """The lists of the parts of each heap, in the order of their shapes."""
    heaped = {}
    for sight in view.sights:
        if sight.shape[0] == "part":
            heaped.setdefault((sight.facet, sight.layer, sight.word), []).append(sight)
    return [heaped[heap] for heap in heaped]


def heap_pairs(view):
    """The tuples of the numbers of the first two parts of each heap that is not what it seems to be."""
    pairs = []
    for heap in heaps_of(view):
        make = misleading_make(view.scene.telling, view.scene.telling[3][heap[0].layer])
        if make is not None and len(heap) > 1:
            if sum_of([part.value for part in heap]) != made_together(view, make, heap):
                pairs.append((heap[0].at, heap[1].at))
    return pairs


def is_broken(rule, scene, one, other):
    """Whether two marks are such as a rule, any but heaps, is broken by."""
    if rule == "nought":
        return is_nought(one, other)
    if rule == "twice":
        return is_twice(one, other)
    return is_alike(scene, one, other) if rule == "alike" else is_overlap(one, other)


def first_pair(rule, view):
    """The numbers of the first two marks by which a rule is broken, or None."""
    if rule == "heaps":
        return min(heap_pairs(view), default=None)
    for at, one in enumerate(view.sights):
        for other in view.sights[at + 1:]:
            if is_broken(rule, view.scene, one, other):
                return (one.at, other.at)
    return None


def sayings(telling, table):
    """The first saying of each rule that is broken, in the order of the rules."""
    view = view_of(telling, table)
    pairs = [(rule, first_pair(rule, view)) for rule in RULES]
    return [(rule, pair[0], pair[1]) for rule, pair in pairs if pair is not None]


def is_saying_form(thing):
    """Whether a thing is a tuple of a rule and two whole numbers, the first one the lesser."""
    if not isinstance(thing, tuple) or len(thing) != 3 or not isinstance(thing[0], str) or thing[0] not in RULES:
        return False
    return is_whole(thing[1]) and is_whole(thing[2]) and thing[1] < thing[2]


def is_saying(telling, table, thing):
    """Whether a thing is a saying that is so."""
    view = view_of(telling, table)
    if not is_saying_form(thing):
        return False
    if thing[0] == "heaps":
        return (thing[1], thing[2]) in heap_pairs(view)
    pair = [sight for sight in view.sights if sight.at == thing[1] or sight.at == thing[2]]
    return len(pair) == 2 and is_broken(thing[0], view.scene, pair[0], pair[1])
