"""Laying: a beam gone to its end with deeds at their ticks, and which of these deeds came amid."""

from glowrow.beam import Beam, check_begin
from glowrow.errors import NoDeed, NoTick
from glowrow.frames import ticks_of
from glowrow.stands import is_deed


def ticks_hold(frame, timed):
    """Tell whether each tick is one of the frame and none is less than the one ahead."""
    ticks = [tick for tick, deed in timed]
    return ticks == sorted(ticks) and all([0 <= tick < ticks_of(frame) for tick in ticks])


def check_plan(frame, stand, timed):
    """Refuse with NoFrame, NoStand, NoTick or NoDeed what can't be laid."""
    check_begin(frame, stand)
    if not ticks_hold(frame, timed):
        raise NoTick("a tick isn't one of the frame, or is less than the one ahead")
    # No deed changes how many movers and shapes there are, so what is a deed at first stays one.
    if not all([is_deed(stand, deed) for tick, deed in timed]):
        raise NoDeed("there is no such deed of the stand")


def laid(frame, stand, timed):
    """Tell the beam that has gone to its end, or refuse with NoFrame, NoStand, NoTick or NoDeed."""
    check_plan(frame, stand, timed)
    beam = Beam(frame, stand)
    for tick, deed in timed:
        beam.go(tick - beam.tick())
        beam.deed(deed)
    beam.go(ticks_of(frame) - beam.tick())
    return beam


def slips(frame, stand, timed):
    """Tell the places of the deeds that slip, or refuse as laid does."""
    picture = laid(frame, stand, timed).picture()
    told = []
    for at, (tick, deed) in enumerate(timed):
        others = timed[:at] + timed[at + 1:]
        without = laid(frame, stand, others).picture()
        at_first = laid(frame, stand, [(0, deed)] + others).picture()
        if picture != without and picture != at_first:
            told.append(at)
    return told
