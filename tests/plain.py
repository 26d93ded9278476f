"""The document's points 9 to 15 once more, reckoned tick by tick and spot by spot, for tests to compare with."""

PLACES = {"move": (1, 2), "shape": (0,), "rank": (3,), "turn": (4,)}


def plain_behind(stand, deed):
    """The stand behind a deed of it, by point 9."""
    parts = [stand[0], stand[1], stand[2], [list(mover) for mover in stand[3]], list(stand[4])]
    word, *told = deed
    if word == "shift":
        parts[1] = tuple(told)
    elif word == "pot":
        parts[4][told[0]] = told[1]
    else:
        for place, part in zip(PLACES[word], told[1:], strict=True):
            parts[3][told[0]][place] = part
    parts[3] = tuple(tuple(mover) for mover in parts[3])
    parts[4] = tuple(parts[4])
    return tuple(parts)


def plain_turned(shape, turn):
    """The rows of a shape as it stands turned, by point 7."""
    rows = [list(row) for row in shape]
    if turn in (1, 3):
        rows = [row[::-1] for row in rows]
    if turn in (2, 3):
        rows = rows[::-1]
    return rows


def plain_lying(stand, row):
    """Pairs (number, inks) of the movers on a row, by point 10."""
    told = []
    for number, (shape, x, y, rank, turn) in enumerate(stand[3]):
        if shape is not None:
            for down, inks in enumerate(plain_turned(stand[2][shape], turn)):
                if y + down == row:
                    told.append((number, tuple(inks)))
    return told


def plain_taken(frame, stand, row):
    """The row taken of a stand, by point 11."""
    floor, (across, down), book, movers, pots = stand
    inks = []
    for x in range(frame[0]):
        line = floor[(row + down) % len(floor)]
        inks.append(line[(x + across) % len(line)])
    strips = []
    for number, strip in plain_lying(stand, row)[:frame[3]]:
        strips.append((number, movers[number][1], movers[number][3], strip))
    return (tuple(inks), tuple(strips))


def plain_covers(row_taken, x):
    """The strips' (number, rank, ink) that cover a spot, by point 12."""
    told = []
    for number, left, rank, strip in row_taken[1]:
        for at, ink in enumerate(strip):
            if left + at == x and ink != 0:
                told.append((number, rank, ink))
    return told


def plain_ink(row_taken, x):
    """The ink at a spot of a taken row, by point 12."""
    covers = plain_covers(row_taken, x)
    for rank in (3, 2, 1):
        for number, its_rank, ink in covers:
            if its_rank == rank:
                return ink
    if row_taken[0][x] != 0:
        return row_taken[0][x]
    for number, its_rank, ink in covers:
        return ink
    return 0


class PlainLay:
    """What is there when the beam has gone up to a tick, that tick not gone, with deeds by their ticks.

    Deeds of that very tick are done too.
    """

    def __init__(self, frame, stand, timed, until):
        self.frame, self.stand = frame, stand
        self.picture, self.lost, self.touched, self.grounded = [], [], {}, {}
        due = list(timed)
        now = 0
        for row in range(frame[1]):
            for spot in range(frame[0] + frame[2]):
                while due and due[0][0] == now:
                    self.stand = plain_behind(self.stand, due.pop(0)[1])
                if now == until:
                    return
                if spot == 0:
                    self.take(row)
                if spot < frame[0]:
                    self.lay(row, spot)
                now += 1

    def take(self, row):
        self.row_taken = plain_taken(self.frame, self.stand, row)
        self.picture.append([])
        self.lost += [(row, number) for number, strip in plain_lying(self.stand, row)[self.frame[3]:]]

    def lay(self, row, spot):
        self.picture[-1].append(self.stand[4][plain_ink(self.row_taken, spot)])
        numbers = [cover[0] for cover in plain_covers(self.row_taken, spot)]
        for i in numbers:
            if self.row_taken[0][spot] != 0 and i not in self.grounded:
                self.grounded[i] = (i, row, spot)
            for j in numbers:
                if i < j and (i, j) not in self.touched:
                    self.touched[i, j] = (i, j, row, spot)

    def touches(self):
        return sorted(self.touched.values())

    def grounds(self):
        return sorted(self.grounded.values())


def plain_laid(frame, stand, timed):
    """What is there when the beam has gone to its end."""
    return PlainLay(frame, stand, timed, frame[1] * (frame[0] + frame[2]))
