"""Shapes: which are marks, and the frames that a list of shapes shows."""

from markscale.axisreader import scale_read
from markscale.frames import Frame

GROUND = ("frame", "axis", "tick", "legend", "key")


def is_mark(shape):
    """Whether a shape is a mark."""
    return shape[0] not in GROUND


def frame_numbers(shapes):
    """The list, for each shape, of the number of the frame in which it stands or behind which it comes."""
    numbers = []
    frames = 0
    for shape in shapes:
        if shape[0] == "frame":
            frames += 1
        numbers.append(frames - 1)
    return numbers


def by_frame(shapes):
    """The lists of shapes of each frame, which come from the frame's own on."""
    pieces = []
    for shape in shapes:
        if shape[0] == "frame":
            pieces.append([])
        if pieces:
            pieces[-1].append(shape)
    return pieces


def along_axis(frame, side, place):
    """How far a place of the sheet lies along the axis of x or of a side of a frame's shape."""
    return place - frame[2] if side == "x" else frame[3] + frame[5] - place


def axes_in(piece):
    """The dict of the axes of a frame's shapes: by x and sides tuples (scale or None, ticks)."""
    frame = piece[0]
    axis_words = {}
    ticks = {}
    for shape in piece:
        if shape[0] == "axis":
            axis_words[shape[1]] = shape[2]
        if shape[0] == "tick":
            ticks.setdefault(shape[1], []).append((along_axis(frame, shape[1], shape[2]), shape[3]))
    axes = {}
    for side in axis_words:
        shown = ticks.get(side, [])
        axes[side] = (scale_read(axis_words[side], shown, frame[4] if side == "x" else frame[5]), shown)
    return axes


def frames_in(shapes):
    """The frames that shapes show, with the axes that are read of them."""
    frames = []
    for piece in by_frame(shapes):
        shape = piece[0]
        frames.append(Frame(shape[1], shape[2], shape[3], shape[4], shape[5], axes_in(piece)))
    return frames
