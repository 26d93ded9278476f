"""Points 29 to 32: paths, films, a film so many frames on, its round, and where two movers meet."""

import random
import unittest

from anything import SIXTY, odd_things
from glowrow.films import film_at, is_film, meeting, round_of
from parts import part_at, paths, with_part_at
from plain import plain_turned
from plainfilms import plain_far, plain_film_far, plain_next, plain_step
from worlds import some_film

FRAME = (4, 2, 1, 2)
POTS = tuple(range(20, 36))
BOOK = (((4, 5), (6, 0)), ((7,),), ((1,) * 8,))
STAND = (((1, 0),), (0, 0), BOOK, ((0, 1, -2, 1, 0), (1, 2, 0, 0, 0), (None, 899, -899, 3, 3)), POTS)
ACROSS, DOWN = (0, 5, 1, 2), (-4, 8, -2, -3)
PATHS = ((ACROSS, DOWN), None, ((895, 900, 899, 12), (-900, -899, -899, 0)))
FILM = (FRAME, STAND, PATHS)


def film_of(shapes, places):
    """A film with a mover for each shape, each with a pair of paths, or a pair of numbers where it has none."""
    movers, pairs = [], []
    for shape, (x, y) in zip(shapes, places):
        has_paths = isinstance(x, tuple)
        movers.append((shape, x[2], y[2], 1, 0) if has_paths else (shape, x, y, 1, 0))
        pairs.append((x, y) if has_paths else None)
    return (FRAME, (((0,),), (0, 0), BOOK, tuple(movers), POTS), tuple(pairs))


def plain_round(film, most):
    """The round, found by going frame by frame, or None where that takes too long."""
    seen, at = {}, 0
    while film[2] not in seen:
        if at > most:
            return None
        seen[film[2]] = at
        film, at = plain_next(film), at + 1
    return (seen[film[2]], at - seen[film[2]])


def plain_box(film, number):
    """All spots of a mover's box."""
    shape, x, y, rank, turn = film[1][3][number]
    if shape is None:
        return set()
    rows = plain_turned(film[1][2][shape], turn)
    return {(x + across, y + down) for down, inks in enumerate(rows) for across in range(len(inks))}


def plain_meeting(film, one, other):
    """The first frame in which two movers meet, found by going frame by frame through the round of these two."""
    pairs = tuple(pair if number in (one, other) else None for number, pair in enumerate(film[2]))
    film = (film[0], film[1], pairs)
    seen = {}
    while film[2] not in seen:
        if plain_box(film, one) & plain_box(film, other):
            return len(seen)
        seen[film[2]] = True
        film = plain_next(film)
    return None


class IsFilm(unittest.TestCase):
    def test_ordinary_films(self):
        for film in (FILM, (FRAME, STAND[:3] + ((), POTS), ()), (FRAME, STAND, (None,) * 3)):
            self.assertIs(is_film(film), True)
        rng = random.Random(301)
        for k in range(300):
            self.assertIs(is_film(some_film(rng, 12, k % 2 == 0)), True)

    def test_paths_at_each_bound_and_beyond(self):
        def film_with(path):
            return film_of((1,), [((0, 0, 0, 0), path)])

        for path in (
            (-900, -900, -900, 0), (900, 900, 900, 0), (900, 912, 912, 12), (-900, -888, -888, -12), (0, 12, 0, 12),
            (0, 12, 12, 12), (0, 12, 6, -12), (5, 5, 5, 12), (-6, 6, 0, 1),
        ):
            self.assertIs(is_film(film_with(path)), True, path)
            self.assertIs(is_film(film_of((None,), [(path, path)])), True, path)
        for path in (
            (-901, -900, -900, 0), (901, 901, 901, 0), (0, 13, 0, 0), (0, -1, 0, 0), (1, 0, 0, 0), (1, 0, 1, 0),
            (0, 12, 13, 0), (0, 12, -1, 0), (0, 5, 6, 0), (3, 5, 2, 0), (0, 12, 0, 13), (0, 12, 0, -13),
            (-SIXTY, 0, 0, 0), (0, SIXTY, 0, 0), (0, 0, 0, SIXTY), (0, 0, 0, -SIXTY), (0, 1000, 1000, 0),
        ):
            self.assertIs(is_film(film_with(path)), False, path)

    def test_movers_are_where_their_paths_are_at(self):
        for path in (((1, 3, 0, 1), 2), ((1, 3, 0, 2), -1), ((1, 3, 2, 1), 900), ((1, 3, 2, 2), -900)):
            self.assertIs(is_film(with_part_at(FILM, path[0], path[1])), False, path)
        crossed = (FRAME, STAND, ((DOWN, ACROSS),) + PATHS[1:])
        self.assertIs(is_film(crossed), False)
        # A mover without paths may be anywhere.
        self.assertIs(is_film(with_part_at(FILM, (1, 3, 1, 1), 1000)), True)

    def test_a_pair_too_many_or_too_few(self):
        for pairs in (PATHS[:2], PATHS + (None,), PATHS[1:], (), (PATHS,), PATHS + (PATHS[0],)):
            self.assertIs(is_film((FRAME, STAND, pairs)), False)
        for pair in ((), (ACROSS,), (ACROSS, DOWN, DOWN), ACROSS, (None, None), (ACROSS, None), (None, DOWN)):
            self.assertIs(is_film((FRAME, STAND, (pair,) + PATHS[1:])), False)
        for path in (ACROSS[:3], ACROSS + (0,), (), (ACROSS,)):
            self.assertIs(is_film((FRAME, STAND, ((path, DOWN),) + PATHS[1:])), False)

    def test_another_kind_at_any_place_and_depth(self):
        for path in paths(FILM):
            for part in (True, False, "", "0", [], [0], (None,), ("0",), ((((0,),),),), SIXTY, -SIXTY):
                self.assertIs(is_film(with_part_at(FILM, path, part)), False, (path, part))

    def test_none_at_any_place(self):
        for path in paths(FILM):
            is_pair = path[:1] == (2,) and len(path) == 2
            is_shape = path[:2] == (1, 3) and len(path) == 4 and path[3] == 0
            self.assertIs(is_film(with_part_at(FILM, path, None)), is_pair or is_shape, path)

    def test_a_list_in_a_tuples_place(self):
        for path in paths(FILM):
            part = part_at(FILM, path)
            if isinstance(part, tuple):
                self.assertIs(is_film(with_part_at(FILM, path, list(part))), False, path)

    def test_odd_things(self):
        for at, thing in enumerate(odd_things()):
            for other in (thing, (thing,), (thing, thing, thing), (FRAME, thing, PATHS), (thing, STAND, PATHS)):
                self.assertIs(is_film(other), False, at)
            self.assertIs(is_film((FRAME, STAND, thing)), False, at)
            self.assertIs(is_film((FRAME, STAND, (thing, None, None))), thing is None, at)
        for thing in (FILM + (0,), FILM[:2], (STAND, FRAME, PATHS), FILM[::-1]):
            self.assertIs(is_film(thing), False)


def walk(path, many):
    """Where a path is at, from frame to frame, as film_at tells it."""
    film = film_of((1,), [(path, (0, 0, 0, 0))])
    return [film_at(film, k)[2][0][0][2] for k in range(many)]


class FilmAt(unittest.TestCase):
    def test_known_paths(self):
        self.assertEqual(walk((0, 3, 1, 1), 9), [1, 2, 3, 2, 1, 0, 1, 2, 3])
        self.assertEqual(walk((0, 3, 0, -1), 5), [0, 1, 2, 3, 2])
        self.assertEqual(walk((0, 5, 1, 2), 7), [1, 3, 5, 3, 1, 3, 5])
        self.assertEqual(walk((0, 4, 1, 3), 5), [1, 4, 1, 4, 1])

    def test_paths_that_stay(self):
        self.assertEqual(walk((7, 7, 7, 5), 4), [7, 7, 7, 7])
        self.assertEqual(walk((0, 12, 4, 0), 4), [4, 4, 4, 4])
        self.assertEqual(walk((0, 4, 2, 5), 4), [2, 2, 2, 2])
        self.assertEqual(walk((0, 12, 6, -12), 4), [6, 6, 6, 6])

    def test_the_step_is_turned_where_a_path_stays(self):
        for path, steps in (
            ((7, 7, 7, 5), [5, -5, 5, -5]), ((0, 4, 2, -5), [-5, 5, -5, 5]), ((7, 7, 7, 0), [0, 0, 0, 0]),
            ((0, 3, 2, 1), [1, 1, -1, -1]),
        ):
            film = film_of((1,), [((0, 0, 0, 0), path)])
            self.assertEqual([film_at(film, k)[2][0][1][3] for k in range(4)], steps)

    def test_a_known_film(self):
        self.assertEqual(film_at(FILM, 0), FILM)
        gone = film_at(FILM, 1)
        self.assertEqual(gone[0], FRAME)
        self.assertEqual(gone[2], (((0, 5, 3, 2), (-4, 8, 1, 3)), None, ((895, 900, 899, -12), (-900, -899, -899, 0))))
        self.assertEqual(gone[1], STAND[:3] + (((0, 3, 1, 1, 0), STAND[3][1], (None, 899, -899, 3, 3)), POTS))

    def test_few_frames_on(self):
        rng = random.Random(311)
        for k in range(150):
            film = now = some_film(rng, 12, k % 3 > 0)
            for many in range(40):
                self.assertEqual(film_at(film, many), now)
                self.assertIs(is_film(now), True)
                now = plain_next(now)

    def test_every_path_of_one_low(self):
        for long in range(13):
            for at in range(long + 1):
                for step in range(-12, 13):
                    path = now = (-3, long - 3, at - 3, step)
                    film = film_of((1,), [((0, 0, 0, 0), path)])
                    for many in range(30):
                        self.assertEqual(film_at(film, many)[2][0][1], now, (path, many))
                        now = plain_step(now)
                    for many in (1000, SIXTY):
                        self.assertEqual(film_at(film, many)[2][0][1], plain_far(path, many), (path, many))

    def test_many_frames_on(self):
        rng = random.Random(312)
        for k in range(60):
            film = some_film(rng, 12)
            for many in (SIXTY, SIXTY - 1, 10 ** 59, rng.randrange(10 ** 60), rng.randrange(10 ** 20), 55440, 55441):
                self.assertEqual(film_at(film, many), plain_film_far(film, many), (film, many))

    def test_in_parcels_and_at_once(self):
        rng = random.Random(313)
        for k in range(100):
            film = now = some_film(rng, 12)
            whole = 0
            for parcel in range(5):
                many = rng.choice((0, 1, 2, 7, 1000, rng.randrange(10 ** 58)))
                now, whole = film_at(now, many), whole + many
                self.assertEqual(now, film_at(film, whole))

    def test_without_movers_and_without_paths(self):
        for film in ((FRAME, STAND[:3] + ((), POTS), ()), (FRAME, STAND, (None,) * 3)):
            for many in (0, 1, 2, SIXTY):
                self.assertEqual(film_at(film, many), film)


class RoundOf(unittest.TestCase):
    def test_without_paths(self):
        for film in ((FRAME, STAND[:3] + ((), POTS), ()), (FRAME, STAND, (None,) * 3)):
            self.assertEqual(round_of(film), (0, 1))

    def test_one_path(self):
        for path, wished in (
            ((7, 7, 7, 0), (0, 1)), ((7, 7, 7, 5), (0, 2)), ((0, 12, 4, 0), (0, 1)), ((0, 12, 6, 12), (0, 2)),
            ((0, 3, 1, 1), (0, 6)), ((0, 3, 0, 1), (1, 6)), ((0, 3, 0, -1), (0, 6)), ((0, 3, 3, -1), (1, 6)),
            ((0, 12, 0, 1), (1, 24)), ((0, 12, 5, 1), (0, 24)), ((0, 1, 0, 1), (1, 2)), ((0, 1, 0, -1), (0, 2)),
            ((0, 12, 0, 5), (1, 4)),
        ):
            self.assertEqual(round_of(film_of((1,), [(path, (0, 0, 0, 0))])), wished, path)
            self.assertEqual(round_of(film_of((None,), [((0, 0, 0, 0), path)])), wished, path)

    def test_every_path_of_one_low(self):
        for long in range(13):
            for at in range(long + 1):
                for step in range(-12, 13):
                    film = film_of((1,), [((0, long, at, step), (0, 0, 0, 0))])
                    self.assertEqual(round_of(film), plain_round(film, 1000), film)

    def test_several_paths(self):
        film = film_of((1, 1), [((0, 2, 1, 1), (0, 3, 0, 1)), ((0, 5, 5, 1), (0, 7, 3, 1))])
        self.assertEqual(round_of(film), (1, 420))
        self.assertEqual(plain_round(film, 1000), (1, 420))
        self.assertEqual(round_of(film_of((1,), [((0, 2, 1, 1), (0, 4, 1, 1))])), (0, 8))

    def test_the_longest_round(self):
        longs = (12, 11, 10, 9, 8, 7, 5, 1)
        pairs = [((0, long, long, -1), (0, long, 0, -1)) for long in longs]
        film = film_of((1,) * 8, pairs)
        self.assertEqual(round_of(film), (1, 55440))
        self.assertEqual(plain_round(film, 60000), (1, 55440))

    def test_many(self):
        rng = random.Random(314)
        looked = 0
        for k in range(200):
            film = some_film(rng, rng.choice((1, 2, 4)))
            wished = plain_round(film, 3000)
            if wished is not None:
                looked += 1
                self.assertEqual(round_of(film), wished, film)
        self.assertGreater(looked, 100)

    def test_a_film_comes_again_by_its_round(self):
        rng = random.Random(315)
        for k in range(100):
            film = some_film(rng, 12)
            ahead, length = round_of(film)
            self.assertEqual(film_at(film, ahead), film_at(film, ahead + length))
            self.assertEqual(film_at(film, ahead + 5), film_at(film, ahead + 5 + 1000 * length))
            if ahead > 0:
                self.assertNotEqual(film_at(film, ahead - 1), film_at(film, ahead - 1 + length))
            for part in (2, 3, 5, 7, 11):
                if length % part == 0:
                    self.assertNotEqual(film_at(film, ahead), film_at(film, ahead + length // part))


class Meeting(unittest.TestCase):
    def look(self, film, one=0, other=1):
        """Looks at what is told, either one first, and tells it."""
        told = meeting(film, one, other)
        self.assertEqual(told, plain_meeting(film, one, other), (film, one, other))
        self.assertEqual(meeting(film, other, one), told)
        return told

    def test_at_once(self):
        self.assertEqual(self.look(film_of((1, 1), [(3, 4), (3, 4)])), 0)
        self.assertEqual(self.look(film_of((0, 0), [(3, 4), (4, 5)])), 0)
        self.assertEqual(self.look(film_of((0, 0), [(3, 4), (2, 5)])), 0)
        self.assertEqual(self.look(film_of((2, 1), [(3, 4), (10, 4)])), 0)

    def test_side_by_side_is_no_meeting(self):
        self.assertIsNone(self.look(film_of((0, 0), [(3, 4), (5, 4)])))
        self.assertIsNone(self.look(film_of((0, 0), [(3, 4), (3, 6)])))
        self.assertIsNone(self.look(film_of((0, 0), [(3, 4), (1, 4)])))
        self.assertIsNone(self.look(film_of((2, 1), [(3, 4), (11, 4)])))
        self.assertIsNone(self.look(film_of((2, 1), [(3, 4), (3, 5)])))

    def test_a_clear_spot_of_a_box_counts(self):
        self.assertEqual(self.look(film_of((0, 1), [(0, 0), (1, 1)])), 0)

    def test_every_turn_and_shape(self):
        for turn in range(4):
            for shape in range(3):
                for x in range(-9, 10):
                    for y in (-2, -1, 0, 1, 2):
                        film = film_of((0, shape), [(0, 0), (x, y)])
                        self.look(with_part_at(film, (1, 3, 1, 4), turn))

    def test_outside_of_the_frame(self):
        self.assertEqual(self.look(film_of((1, 1), [(-1000, 1000), (-1000, 1000)])), 0)
        self.assertEqual(self.look(film_of((1, 1), [((-900, -890, -900, 1), (900, 900, 900, 0)), (-895, 900)])), 5)

    def test_later(self):
        path, still = (0, 12, 0, 1), (0, 0, 0, 0)
        self.assertEqual(self.look(film_of((1, 1), [(path, still), (9, 0)])), 9)
        self.assertEqual(self.look(film_of((0, 1), [(path, still), (9, 1)])), 8)
        self.assertEqual(self.look(film_of((1, 1), [(path, still), ((0, 12, 12, -1), still)])), 6)
        self.assertEqual(self.look(film_of((1, 1), [((0, 12, 3, 1), still), (2, 0)])), 19)

    def test_just_ahead_of_the_round(self):
        still = (0, 0, 0, 0)
        film = film_of((1, 1), [((0, 12, 0, 1), still), (0, 0)])
        self.assertEqual(self.look(film), 0)
        self.assertEqual(self.look(film_of((1, 1), [((0, 12, 1, 1), still), (0, 0)])), 23)

    def test_seldom(self):
        film = film_of((1, 1), [((0, 11, 0, 1), (0, 9, 4, 1)), ((0, 7, 7, 1), (0, 7, 0, 1))])
        self.look(film)
        rng = random.Random(321)
        seen = []
        for k in range(60):
            pairs = []
            for mover in range(2):
                longs = [rng.choice((7, 8, 9, 11)) for way in range(2)]
                pairs.append(tuple((0, long, rng.randint(0, long), rng.choice((1, -1))) for long in longs))
            pairs[1] = ((pairs[0][0][1], pairs[0][0][1] + 7, pairs[0][0][1] + rng.randint(0, 7), 1), pairs[1][1])
            told = self.look(film_of((1, 1), pairs))
            seen.append(-1 if told is None else told)
        self.assertGreater(max(seen), 300)
        self.assertIn(-1, seen)

    def test_never(self):
        still = (0, 0, 0, 0)
        self.assertIsNone(self.look(film_of((1, 1), [((0, 12, 0, 1), still), ((0, 12, 1, 1), (1, 1, 1, 5))])))
        # Each comes to the other one's places, but never at the same time.
        self.assertIsNone(self.look(film_of((1, 1), [((0, 1, 0, -1), still), ((0, 1, 1, 1), still)])))
        self.assertIsNone(self.look(film_of((1, 1), [((0, 12, 0, 2), still), ((0, 12, 1, 2), still)])))

    def test_who_is_off(self):
        for shapes in ((None, 1), (1, None), (None, None)):
            self.assertIsNone(self.look(film_of(shapes, [(0, 0), (0, 0)])))
            self.assertIsNone(self.look(film_of(shapes, [((0, 3, 0, 1), (0, 3, 0, 1)), ((0, 3, 0, 1), (0, 3, 0, 1))])))

    def test_other_movers_do_not_matter(self):
        film = film_of((1, 2, 1), [((0, 12, 0, 1), (0, 0, 0, 0)), (0, 0), (9, 0)])
        self.assertEqual(self.look(film, 0, 2), 9)
        self.assertEqual(self.look(film, 0, 1), 0)
        self.assertIsNone(self.look(film, 1, 2))

    def test_many(self):
        rng = random.Random(322)
        kinds = {"at once": 0, "later": 0, "never": 0}
        for k in range(300):
            places = []
            for mover in range(3):
                pair = tuple((low, low + 9, low + rng.randint(0, 9), rng.randint(-5, 5)) for low in (
                    rng.randint(-3, 3), rng.randint(-3, 3)))
                places.append(rng.choice((pair, pair, (rng.randint(0, 6), rng.randint(0, 6)))))
            film = film_of([rng.choice((0, 0, 1, 1, 2, None)) for mover in range(3)], places)
            for one, other in ((0, 1), (0, 2), (1, 2)):
                told = self.look(film, one, other)
                kinds["never" if told is None else "later" if told else "at once"] += 1
        self.assertGreater(min(kinds.values()), 15, kinds)

    def test_films_of_all_kinds(self):
        rng = random.Random(323)
        for k in range(100):
            film = some_film(rng, 4)
            for one in range(len(film[2])):
                for other in range(one):
                    self.look(film, one, other)

    def test_a_film_gone_on_meets_by_so_much_earlier(self):
        film = film_of((1, 1), [((0, 12, 0, 1), (0, 0, 0, 0)), (9, 0)])
        for many in range(10):
            self.assertEqual(meeting(film_at(film, many), 0, 1), 9 - many)


if __name__ == "__main__":
    unittest.main()
