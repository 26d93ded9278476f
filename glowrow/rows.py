"""Rows: which movers lie on one, what the beam takes of it, and the ink that shows at a spot."""

from glowrow.shapes import strip_of


def lying_on(stand, row):
    """Tell the numbers of the movers that lie on a row, be it one of a frame or not."""
    floor, shift, book, movers, pots = stand
    told = []
    for number, (shape, x, y, rank, turn) in enumerate(movers):
        if shape is not None and y <= row < y + len(book[shape]):
            told.append(number)
    return told


def kept_on(frame, stand, row):
    """Tell the numbers of the movers on a row that the frame keeps."""
    wide, high, gap, most = frame
    return lying_on(stand, row)[:most]


def lost_on(frame, stand, row):
    """Tell the numbers of the movers on a row that the frame has no room for."""
    wide, high, gap, most = frame
    return lying_on(stand, row)[most:]


def taken(frame, stand, row):
    """Tell the row as it is taken from the stand: a tuple (inks, strips)."""
    strips = [strip_taken(stand, number, row) for number in kept_on(frame, stand, row)]
    return (floor_inks(frame, stand, row), tuple(strips))


def floor_inks(frame, stand, row):
    """Tell the floor's ink for each spot of a row."""
    wide, high, gap, most = frame
    floor, (across, down), book, movers, pots = stand
    inks = floor[(row + down) % len(floor)]
    return tuple([inks[(x + across) % len(inks)] for x in range(wide)])


def strip_taken(stand, number, row):
    """Tell what a row takes of a mover on it: a tuple (number, x, rank, strip)."""
    floor, shift, book, movers, pots = stand
    shape, x, y, rank, turn = movers[number]
    return (number, x, rank, strip_of(book[shape], turn, row - y))


def covers_at(row_taken, x):
    """Tell who covers a spot of a taken row, shown or not: tuples (rank, number, ink)."""
    inks, strips = row_taken
    told = []
    for number, left, rank, strip in strips:
        if left <= x < left + len(strip) and strip[x - left] != 0:
            told.append((rank, number, strip[x - left]))
    return told


def ink_at(row_taken, x):
    """Tell the ink that shows at a spot of a taken row."""
    inks, strips = row_taken
    return ink_shown(inks[x], covers_at(row_taken, x))


def ink_shown(floor_ink, covers):
    """Tell the ink that shows where these movers cover that floor."""
    if covers:
        # Of like ranks the least number goes first.
        rank, number, ink = min(covers, key=lambda cover: (-cover[0], cover[1]))
        if rank >= 1 or floor_ink == 0:
            return ink
    return floor_ink
