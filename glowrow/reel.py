"""Reels: a film that is driven on and changed, and taken back again."""

from glowrow.errors import NoDeed, NoFilm, Over
from glowrow.films import film_at, is_film
from glowrow.laying import laid
from glowrow.stands import stand_behind

MOST_BACK = 100


class Past:
    """Something as it is now, and as it was ahead of its last changes."""

    def __init__(self, now):
        self.now = now
        self.earlier = []

    def change(self, thing):
        """Have another thing from now on, so that this can be taken back."""
        self.earlier = (self.earlier + [self.now])[-MOST_BACK:]
        self.now = thing

    def back(self):
        """Take back the last change, or refuse with Over."""
        if not self.earlier:
            raise Over("nothing is left to take back")
        self.now = self.earlier[-1]
        self.earlier = self.earlier[:-1]


class Reel:
    """A film as it is, and how many frames on that is."""

    def __init__(self, film):
        if not is_film(film):
            raise NoFilm("that is no film")
        self.past = Past((0, film))

    def frames(self):
        """Tell how many frames on it is."""
        many, film = self.past.now
        return many

    def film(self):
        """Tell the film as it is."""
        many, film = self.past.now
        return film

    def go(self, many):
        """Go so many frames on."""
        # A going by none is nothing that could be taken back.
        if many > 0:
            self.past.change((self.frames() + many, film_at(self.film(), many)))

    def deed(self, deed):
        """Do a deed, or refuse with NoDeed."""
        frame, stand, paths = self.film()
        behind = stand_behind(stand, deed)
        if deed[0] == "move" and paths[deed[1]] is not None:
            raise NoDeed("that mover goes by its paths")
        self.past.change((self.frames(), (frame, behind, paths)))

    def back(self):
        """Take back what was gone or done last, or refuse with Over."""
        self.past.back()

    def picture(self):
        """Tell the picture laid of its frame and stand without deeds."""
        frame, stand, paths = self.film()
        return laid(frame, stand, []).picture()
