"""Drawings: a telling and a table, drawn on a sheet."""

from markscale.frames import frames_of
from markscale.items import scene_of
from markscale.legends import room_of, spots_of
from markscale.papers import keys_of, paper_of


def layout_of(scene):
    """The tuple (frames, spots) of where a sheet has its frames and its keys."""
    sheet = scene.telling[7]
    keys = keys_of(scene)
    room = room_of(keys, sheet[1])
    return (frames_of(scene, room), spots_of(keys, sheet[0] - room))


def drawn(telling, table):
    """The drawing (shapes, behind, lost) of a telling and a table."""
    scene = scene_of(telling, table)
    layout = layout_of(scene)
    return paper_of(scene, layout[0], layout[1])
