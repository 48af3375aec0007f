"""Layers: the marks of a layer in a frame, whatever its mark is."""

from markscale.bars import bars, heaps
from markscale.boxes import boxes
from markscale.frames import field_of
from markscale.items import items_of
from markscale.paths import bands, lines
from markscale.spots import dots, words


def marks_of(field, layer, items):
    """The tuple (marks, lost) of a layer's items in a field."""
    mark = layer[0]
    side = layer[1]
    if mark == "dots":
        return dots(field, side, items)
    if mark == "words":
        return words(field, side, items)
    if mark == "lines":
        return lines(field, side, items)
    if mark == "bands":
        return bands(field, side, items)
    if mark == "bars":
        return bars(field, side, items)
    if mark == "heaps":
        return heaps(field, side, items)
    return boxes(field, side, items)


def layers_in(scene, frame, facet):
    """The tuples (marks, lost) of all layers in the frame of the facet of that number."""
    layers = scene.telling[3]
    return [marks_of(field_of(frame, layer[1]), layer, items_of(scene, facet, layer)) for layer in layers]
