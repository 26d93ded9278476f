"""Wished pictures: which wishes a picture tells of a stand, and the lone change of a pot that lays it."""

from glowrow.frames import begin_of
from glowrow.rows import ink_at, taken


def inks_shown(frame, stand):
    """Tell for each row of the frame the inks that show of the stand."""
    wide, high, gap, most = frame
    rows = [taken(frame, stand, row) for row in range(high)]
    return [[ink_at(row_taken, x) for x in range(wide)] for row_taken in rows]


def wishes_of(frame, stand, picture):
    """Tell the wishes of a picture of the frame, or two spots of one row that bar them."""
    shown = inks_shown(frame, stand)
    for row, (inks, hues) in enumerate(zip(shown, picture)):
        bars = first_bars(inks, hues)
        if bars is not None:
            return ("bars", row) + bars
    return ("wishes", sorted({
        (row, ink, hue)
        for row, (inks, hues) in enumerate(zip(shown, picture)) for ink, hue in zip(inks, hues)
    }))


def first_bars(inks, hues):
    """Tell the first two spots of a row that have one ink and unlike hues, or None."""
    for one in range(len(inks)):
        for other in range(one + 1, len(inks)):
            if inks[one] == inks[other] and hues[one] != hues[other]:
                return (one, other)
    return None


def lone_pot(frame, stand, picture):
    """Tell the one change of a pot with which the stand lays a picture of the frame, if there is one."""
    floor, shift, book, movers, pots = stand
    spots = spots_of(frame, stand, picture)
    other = [spot for spot in spots if spot[2] != pots[spot[1]]]
    if not other:
        return ("same",)
    last, ink, hue = other[0]
    # Ahead of the change the ink has its old hue, so all that has it comes ahead of all that hasn't.
    first = max([0] + [spot[0] + 1 for spot in spots if spot[1] == ink and spot[2] == pots[ink]])
    if first > last or any([spot[1:] != (ink, hue) for spot in other]):
        return ("none",)
    return ("pot", ink, hue, first, last)


def spots_of(frame, stand, picture):
    """Tell for each spot, as the beam goes, its tick, the ink that shows, and the picture's hue."""
    return [
        (begin_of(frame, row) + x, ink, hue)
        for row, (inks, hues) in enumerate(zip(inks_shown(frame, stand), picture))
        for x, (ink, hue) in enumerate(zip(inks, hues))
    ]
