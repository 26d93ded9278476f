"""The beam: it goes over a frame tick by tick and lays what stands when it comes."""

from glowrow.errors import NoFrame, NoStand, Over
from glowrow.frames import is_frame, place_of, ticks_of
from glowrow.rows import covers_at, ink_shown, lost_on, taken
from glowrow.stands import is_stand, stand_behind


def check_begin(frame, stand):
    """Refuse with NoFrame or NoStand what a beam can't begin with."""
    if not is_frame(frame):
        raise NoFrame("that is no frame")
    if not is_stand(stand):
        raise NoStand("that is no stand")


class Beam:
    """A beam on its way over a frame, with the stand as it is."""

    def __init__(self, frame, stand):
        check_begin(frame, stand)
        self.frame = frame
        self.standing = stand
        self.ahead = 0
        self.row_taken = ((), ())
        self.laid_rows = []
        self.first_touches = {}
        self.first_grounds = {}
        self.lost_pairs = []

    def tick(self):
        """Tell the next tick; behind the last one how many there are."""
        return self.ahead

    def stand(self):
        """Tell the stand as it is."""
        return self.standing

    def is_over(self):
        """Tell whether no tick is left."""
        return self.ahead == ticks_of(self.frame)

    def deed(self, deed):
        """Do a deed ahead of the next tick, or refuse with Over or NoDeed."""
        if self.is_over():
            raise Over("no tick is left to do a deed ahead of")
        self.standing = stand_behind(self.standing, deed)

    def go(self, many):
        """Go so many ticks on, or refuse with Over where fewer are left."""
        end = self.ahead + many
        if end > ticks_of(self.frame):
            raise Over("fewer ticks are left than that")
        while self.ahead < end:
            self.go_tick()

    def go_tick(self):
        """Go one tick on."""
        row, spot = place_of(self.frame, self.ahead)
        if spot == 0:
            self.take_row(row)
        if spot is not None:
            self.lay_spot(row, spot)
        self.ahead += 1

    def take_row(self, row):
        """Take a row from the stand as it is."""
        self.row_taken = taken(self.frame, self.standing, row)
        self.laid_rows.append([])
        self.lost_pairs += [(row, number) for number in lost_on(self.frame, self.standing, row)]

    def lay_spot(self, row, spot):
        """Lay the hue of a spot of the taken row, and keep who touches there."""
        inks, strips = self.row_taken
        covers = covers_at(self.row_taken, spot)
        floor, shift, book, movers, pots = self.standing
        self.laid_rows[-1].append(pots[ink_shown(inks[spot], covers)])
        numbers = [number for rank, number, ink in covers]
        self.keep_touches(numbers, row, spot)
        if inks[spot] != 0:
            self.keep_grounds(numbers, row, spot)

    def keep_touches(self, numbers, row, spot):
        """Keep, for each two of these movers, the first place at which they touch."""
        for at, one in enumerate(numbers):
            for other in numbers[at + 1:]:
                self.first_touches.setdefault((one, other), (row, spot))

    def keep_grounds(self, numbers, row, spot):
        """Keep, for each of these movers, the first place at which it touches the ground."""
        for number in numbers:
            self.first_grounds.setdefault(number, (row, spot))

    def picture(self):
        """Tell the rows laid so far, the last one perhaps in part."""
        return [list(row) for row in self.laid_rows]

    def touches(self):
        """Tell who touched whom, and where first: tuples (i, j, row, spot)."""
        return sorted([pair + place for pair, place in self.first_touches.items()])

    def grounds(self):
        """Tell who touched the ground, and where first: tuples (i, row, spot)."""
        return sorted([(number,) + place for number, place in self.first_grounds.items()])

    def lost(self):
        """Tell who was lost on which of the rows taken so far: pairs (row, i)."""
        return list(self.lost_pairs)
