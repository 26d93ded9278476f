"""Frames: how many spots and rows a picture has, and how the beam's ticks are counted."""

from glowrow.errors import NoTick
from glowrow.kinds import is_within


def is_frame(thing):
    """Tell of anything whether it is a frame (wide, high, gap, most)."""
    if not isinstance(thing, tuple) or len(thing) != 4:
        return False
    wide, high, gap, most = thing
    return (
        is_within(wide, 1, 40)
        and is_within(high, 1, 40)
        and is_within(gap, 0, 20)
        and is_within(most, 0, 12)
    )


def row_ticks(frame):
    """Tell how many ticks one row has, those of its gap among them."""
    wide, high, gap, most = frame
    return wide + gap


def ticks_of(frame):
    """Tell how many ticks a frame has."""
    wide, high, gap, most = frame
    return high * row_ticks(frame)


def begin_of(frame, row):
    """Tell the tick with which a row of the frame begins."""
    return row * row_ticks(frame)


def place_of(frame, tick):
    """Tell the pair (row, spot) of a tick, spot None in a gap, or refuse with NoTick."""
    if tick < 0 or tick >= ticks_of(frame):
        raise NoTick(f"the frame has no tick {tick}")
    wide, high, gap, most = frame
    row, spot = divmod(tick, row_ticks(frame))
    if spot >= wide:
        return (row, None)
    return (row, spot)
