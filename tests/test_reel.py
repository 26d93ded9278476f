"""Point 33: reels, what is gone, done, refused and taken back."""

import copy
import random
import unittest

from anything import SIXTY, odd_things
from glowrow.errors import NoDeed, NoFilm, Over
from glowrow.films import is_film
from glowrow.reel import Reel
from parts import part_at, paths, with_part_at
from plain import plain_behind, plain_laid
from plainfilms import plain_film_far, plain_next
from worlds import no_deed, some_deed, some_film

FRAME = (4, 2, 1, 2)
POTS = tuple(range(20, 36))
STAND = (((1, 0),), (0, 0), (((4, 5), (6, 0)), ((7,),)), ((0, 1, 0, 1, 0), (1, 2, 0, 0, 0)), POTS)
FILM = (FRAME, STAND, (((0, 5, 1, 2), (-4, 8, 0, -3)), None))
GOOD = (
    ("shift", 4, -5), ("move", 1, 6, -7), ("shape", 0, 1), ("shape", 1, None), ("rank", 0, 2), ("turn", 0, 1),
    ("turn", 1, 3), ("pot", 15, 63),
)
BAD = (
    ("move", 0, 1, 0), ("move", 0, 3, 3), ("move", 2, 0, 0), ("move", -1, 0, 0), ("shape", 0, 2), ("rank", 0, 4),
    ("turn", 2, 0), ("pot", 16, 0), ("pot", 0, 64), ("pot", 0), ("shift", 1001, 0), ["pot", 0, 0], ("move", True, 0, 0),
    ("move", 1, 1001, 0), ("pots", 0, 0),
)


def told_of(reel):
    """All that a reel tells."""
    return (reel.frames(), reel.film(), reel.picture())


def with_deed(film, deed):
    return (film[0], plain_behind(film[1], deed), film[2])


class PlainReel:
    """A reel by the document's words: all that it was, and how much of that may be taken back."""

    def __init__(self, film):
        self.states, self.may_back = [(0, film)], 0

    def put(self, frames, film):
        self.states.append((frames, film))
        self.may_back = min(self.may_back + 1, 100)

    def go(self, many):
        frames, film = self.states[-1]
        if many:
            self.put(frames + many, plain_film_far(film, many))

    def deed(self, deed):
        frames, film = self.states[-1]
        self.put(frames, with_deed(film, deed))

    def back(self):
        """Takes back, and tells whether that may be."""
        if self.may_back == 0:
            return False
        self.states.pop()
        self.may_back -= 1
        return True


class Reels(unittest.TestCase):
    def same(self, reel, frames, film):
        self.assertEqual(reel.frames(), frames)
        self.assertEqual(reel.film(), film)
        self.assertIs(is_film(reel.film()), True)

    def refused(self, reel, refusal, ask):
        """Looks that something is refused, and that it changes nothing."""
        before = told_of(reel)
        with self.assertRaises(refusal):
            ask()
        self.assertEqual(told_of(reel), before)

    def test_a_new_reel(self):
        reel = Reel(FILM)
        self.same(reel, 0, FILM)
        self.assertEqual(reel.picture(), plain_laid(FRAME, STAND, []).picture)
        self.refused(reel, Over, reel.back)

    def test_going(self):
        now = FILM
        reel = Reel(FILM)
        for many in range(1, 30):
            self.assertIs(reel.go(1), None)
            now = plain_next(now)
            self.same(reel, many, now)
            self.assertEqual(reel.picture(), plain_laid(now[0], now[1], []).picture)

    def test_going_by_few_and_by_many(self):
        for many in (1, 2, 5, 24, 1000, 10 ** 59, SIXTY):
            reel = Reel(FILM)
            reel.go(many)
            self.same(reel, many, plain_film_far(FILM, many))
            reel.go(many)
            self.same(reel, 2 * many, plain_film_far(FILM, 2 * many))
            self.assertIs(reel.back(), None)
            self.same(reel, many, plain_film_far(FILM, many))
            reel.back()
            self.same(reel, 0, FILM)

    def test_going_by_none_is_not_taken_back(self):
        reel = Reel(FILM)
        self.assertIs(reel.go(0), None)
        self.same(reel, 0, FILM)
        self.refused(reel, Over, reel.back)
        reel.go(3)
        reel.go(0)
        self.same(reel, 3, plain_film_far(FILM, 3))
        reel.back()
        self.same(reel, 0, FILM)
        self.refused(reel, Over, reel.back)

    def test_deeds_of_all_words(self):
        for deed in GOOD:
            reel = Reel(FILM)
            self.assertIs(reel.deed(deed), None)
            self.same(reel, 0, with_deed(FILM, deed))
            self.assertEqual(reel.picture(), plain_laid(FRAME, plain_behind(STAND, deed), []).picture)
            reel.go(2)
            self.same(reel, 2, plain_film_far(with_deed(FILM, deed), 2))
            reel.back()
            self.same(reel, 0, with_deed(FILM, deed))
            reel.back()
            self.same(reel, 0, FILM)

    def test_a_deed_without_effect_is_taken_back_too(self):
        reel = Reel(FILM)
        reel.go(1)
        reel.deed(("pot", 0, 20))
        self.same(reel, 1, plain_next(FILM))
        reel.back()
        self.same(reel, 1, plain_next(FILM))
        reel.back()
        self.same(reel, 0, FILM)

    def test_what_is_no_deed(self):
        reel = Reel(FILM)
        for deed in list(BAD) + odd_things():
            self.refused(reel, NoDeed, lambda: reel.deed(deed))
        self.refused(reel, Over, reel.back)

    def test_a_move_of_a_mover_with_paths_even_to_where_it_is(self):
        still = ((3, 3, 3, 0), (4, 4, 4, 0))
        film = (FRAME, STAND[:3] + (((0, 3, 4, 1, 0), (None, 3, 4, 0, 0)), POTS), (still, still))
        reel = Reel(film)
        for deed in (("move", 0, 3, 4), ("move", 1, 3, 4), ("move", 0, 0, 0)):
            self.refused(reel, NoDeed, lambda: reel.deed(deed))
        free = Reel(film[:2] + ((None, still),))
        free.deed(("move", 0, 1000, -1000))
        self.assertEqual(free.film()[1][3][0], (0, 1000, -1000, 1, 0))
        self.refused(free, NoDeed, lambda: free.deed(("move", 1, 3, 4)))

    def test_taken_back_several_times(self):
        reel = Reel(FILM)
        told = [told_of(reel)]
        for step in (1, ("pot", 1, 5), 7, ("move", 1, 3, 3), ("shape", 0, None), SIXTY):
            reel.go(step) if isinstance(step, int) else reel.deed(step)
            told.append(told_of(reel))
        for before in told[-2::-1]:
            reel.back()
            self.assertEqual(told_of(reel), before)
        self.refused(reel, Over, reel.back)
        self.refused(reel, Over, reel.back)

    def test_refused_deeds_are_not_taken_back(self):
        reel = Reel(FILM)
        reel.go(1)
        self.refused(reel, NoDeed, lambda: reel.deed(BAD[0]))
        reel.back()
        self.same(reel, 0, FILM)

    def test_up_to_the_last_hundred(self):
        for many in (99, 100, 101, 150, 250):
            reel = Reel(FILM)
            for step in range(many):
                reel.go(1)
            for step in range(min(many, 100)):
                reel.back()
            self.same(reel, max(0, many - 100), plain_film_far(FILM, max(0, many - 100)))
            for step in range(3):
                self.refused(reel, Over, reel.back)

    def test_a_hundred_of_both(self):
        reel = Reel(FILM)
        for step in range(60):
            reel.go(2)
            reel.go(0)
            reel.deed(("pot", 0, step))
        for step in range(100):
            reel.back()
        self.assertEqual(reel.frames(), 20)
        self.assertEqual(reel.film()[1][4][0], 9)
        self.refused(reel, Over, reel.back)
        reel.go(1)
        reel.back()
        self.refused(reel, Over, reel.back)

    def test_driven_by_chance(self):
        rng = random.Random(331)
        for k in range(40):
            film = some_film(rng)
            reel, plain = Reel(film), PlainReel(film)
            for step in range(rng.choice((10, 10, 300))):
                way = rng.randrange(8)
                if way < 3:
                    many = rng.choice((0, 1, 2, 30, rng.randrange(10 ** 60)))
                    reel.go(many)
                    plain.go(many)
                elif way < 5:
                    deed = some_deed(rng, film[1])
                    if deed[0] == "move" and film[2][deed[1]] is not None:
                        self.refused(reel, NoDeed, lambda: reel.deed(deed))
                    else:
                        reel.deed(deed)
                        plain.deed(deed)
                elif way < 6:
                    self.refused(reel, NoDeed, lambda: reel.deed(no_deed(rng, film[1])))
                elif plain.back():
                    reel.back()
                else:
                    self.refused(reel, Over, reel.back)
                self.same(reel, *plain.states[-1])
            frame, stand, pairs = reel.film()
            self.assertEqual(reel.picture(), plain_laid(frame, stand, []).picture)

    def test_two_reels_of_one_film(self):
        one, other = Reel(FILM), Reel(FILM)
        before = told_of(other)
        one.go(5)
        one.deed(("pot", 0, 1))
        one.go(SIXTY)
        self.assertEqual(told_of(other), before)
        self.refused(other, Over, other.back)
        one.back()
        other.go(1)
        self.assertEqual((one.frames(), other.frames()), (5, 1))
        self.assertEqual(FILM[1], STAND)

    def test_the_told_picture_is_the_askers_own(self):
        reel = Reel(FILM)
        before = copy.deepcopy(reel.picture())
        told = reel.picture()
        told[0].clear()
        told.append(5)
        self.assertEqual(reel.picture(), before)


class NoFilms(unittest.TestCase):
    def refused(self, thing, at):
        with self.assertRaises(NoFilm, msg=at):
            Reel(thing)

    def test_odd_things(self):
        for at, thing in enumerate(odd_things()):
            self.refused(thing, at)
            self.refused((FRAME, STAND, thing), at)
            self.refused((FRAME, thing, FILM[2]), at)
            self.refused((thing, STAND, FILM[2]), at)

    def test_another_kind_at_any_place(self):
        for path in paths(FILM):
            for part in (True, "0", [], (None,), SIXTY):
                self.refused(with_part_at(FILM, path, part), (path, part))
            if isinstance(part_at(FILM, path), tuple):
                self.refused(with_part_at(FILM, path, list(part_at(FILM, path))), path)

    def test_a_mover_beside_its_paths(self):
        self.refused(with_part_at(FILM, (1, 3, 0, 1), 2), 0)
        self.refused(FILM[:2] + (FILM[2][::-1],), 1)
        self.refused(FILM[:2], 2)
        self.refused(FILM + (None,), 3)


if __name__ == "__main__":
    unittest.main()
