"""Points 22 and 23: slots or a row, and casts."""

import copy
import itertools
import random
import unittest

from glowrow.frames import begin_of, ticks_of
from glowrow.laying import laid
from glowrow.slots import cast_for, slots_for
from glowrow.stands import is_stand
from plain import plain_behind, plain_lying, plain_taken
from worlds import some_block, some_frame

FLOOR = ((0,),)
POTS = tuple(range(20, 36))
BOOK = (((1, 2), (3, 4), (5, 6)), ((7, 8, 9),), ((0, 10), (11, 0)))


def needing(things, rest, row):
    """The places of the things that need a row."""
    return [at for at, (first, last) in enumerate(things) if first <= row <= last + rest]


def most_needing(things, rest):
    return max([len(needing(things, rest, row)) for row in range(260)])


class SlotsFor(unittest.TestCase):
    def look(self, things, many, rest):
        """Looks at what is told, and tells whether it is slots."""
        told, most = slots_for(things, many, rest), most_needing(things, rest)
        self.assertIs(type(told), tuple)
        self.assertEqual(len(told), 2)
        self.assertEqual(told[0], "slots" if most <= many else "row", (things, many, rest))
        if told[0] == "row":
            self.assertGreater(len(needing(things, rest, told[1])), many, (things, many, rest, told))
            return False
        slots = told[1]
        self.assertIs(type(slots), list)
        self.assertEqual(len(slots), len(things))
        self.assertTrue(all(0 <= slot < most for slot in slots), (things, told))
        for row in range(260):
            there = [slots[at] for at in needing(things, rest, row)]
            self.assertEqual(len(there), len(set(there)), (things, rest, row, told))
        return True

    def test_no_things(self):
        for many in (0, 1, 60):
            self.assertEqual(slots_for([], many, 0), ("slots", []))
            self.assertEqual(slots_for([], many, 40), ("slots", []))

    def test_one_thing(self):
        self.assertEqual(slots_for([(3, 3)], 0, 0), ("row", 3))
        self.assertEqual(slots_for([(3, 3)], 1, 0), ("slots", [0]))
        self.assertEqual(slots_for([(0, 200)], 1, 40), ("slots", [0]))

    def test_one_behind_the_other(self):
        for rest in (0, 1, 5, 40):
            near, free = [(2, 4), (4 + rest, 50)], [(2, 4), (5 + rest, 50)]
            self.assertFalse(self.look(near, 1, rest))
            self.assertTrue(self.look(near, 2, rest))
            self.assertEqual(slots_for(near, 1, rest), ("row", 4 + rest))
            self.assertEqual(slots_for(free, 1, rest), ("slots", [0, 0]))
            self.assertEqual(slots_for(free[::-1], 1, rest), ("slots", [0, 0]))

    def test_no_more_slots_than_need_be(self):
        # However many there are, each number is less than the most that need one row.
        self.assertEqual(slots_for([(0, 1), (2, 3), (4, 5)], 60, 0), ("slots", [0, 0, 0]))
        self.assertTrue(self.look([(0, 9), (0, 1), (2, 3), (4, 5), (1, 2)], 60, 0))

    def test_in_whatever_order_they_come(self):
        things = [(0, 3), (1, 1), (2, 6), (4, 5), (6, 8)]
        for order in itertools.permutations(things):
            self.assertTrue(self.look(list(order), 2, 0))
            self.assertFalse(self.look(list(order), 1, 0))

    def test_things_alike(self):
        for many in range(5):
            self.assertIs(self.look([(5, 7)] * 3, many, 0), many >= 3)
            self.assertIs(self.look([(5, 5)] * 3 + [(6, 6)], many, 1), many >= 4)

    def test_the_rest_of_the_last_row_of_all(self):
        self.assertFalse(self.look([(200, 200), (200, 200)], 1, 40))
        self.assertTrue(self.look([(200, 200), (159, 159)], 1, 40))
        self.assertFalse(self.look([(200, 200), (160, 160)], 1, 40))

    def test_many(self):
        rng = random.Random(221)
        slots = 0
        for k in range(500):
            reach, length = rng.choice((5, 30, 200)), rng.choice((0, 2, 20))
            firsts = [rng.randint(0, reach) for k in range(rng.choice((1, 3, 12, 60)))]
            things = [(first, min(first + rng.randint(0, length), 200)) for first in firsts]
            rest = rng.choice((0, 0, 1, 3, 40))
            most = most_needing(things, rest)
            for many in {0, max(most - 1, 0), most, most + 1, rng.randint(0, 60)}:
                slots += self.look(things, many, rest)
        self.assertGreater(slots, 500)

    def test_told_lists_are_the_askers_own_and_what_is_handed_in_stays(self):
        things = [(4, 9), (0, 3), (2, 5)]
        before = copy.deepcopy(things)
        told = slots_for(things, 2, 0)[1]
        kept = list(told)
        told.clear()
        self.assertEqual(slots_for(things, 2, 0)[1], kept)
        self.assertEqual(things, before)


def stand_of(book, movers):
    return (FLOOR, (0, 0), book, movers, POTS)


def rows_of(frame, book, mover):
    """The first and the last row of the frame that a mover lies on, or None."""
    rows = [row for row in range(frame[1]) if plain_lying(stand_of(book, (mover,)), row)]
    return (rows[0], rows[-1]) if rows else None


def shown(strips):
    """Strips without their numbers, which are not promised."""
    return sorted([strip[1:] for strip in strips])


class CastFor(unittest.TestCase):
    def look(self, frame, book, cast, many, rest):
        """Looks at what is told, and tells whether it is a cast."""
        told = cast_for(frame, book, cast, many, rest)
        things = [rows_of(frame, book, mover) for mover in cast]
        things = [rows for rows in things if rows is not None]
        self.assertIs(type(told), tuple)
        if told[0] == "row":
            self.assertEqual(len(told), 2)
            self.assertGreater(len(needing(things, rest, told[1])), many, (frame, cast, told))
            return False
        word, movers, timed = told
        self.assertEqual(word, "cast")
        self.assertTrue(not things or most_needing(things, rest) <= many, (frame, cast, told))
        self.assertIs(type(movers), tuple)
        self.assertLessEqual(len(movers), many)
        self.assertIs(is_stand(stand_of(book, movers)), True)
        self.look_at_rows(frame, book, cast, movers, timed)
        return True

    def look_at_rows(self, frame, book, cast, movers, timed):
        """Each row is to be taken with just the strips of those of the cast that have it."""
        self.assertIs(type(timed), list)
        beam = laid(frame, stand_of(book, movers), timed)
        self.assertEqual(beam.lost(), [])
        stand, due = stand_of(book, movers), list(timed)
        for row in range(frame[1]):
            while due and due[0][0] <= begin_of(frame, row):
                stand = plain_behind(stand, due.pop(0)[1])
            wished = [(0, cast[k][1], cast[k][3], strip) for k, strip in plain_lying(stand_of(book, tuple(cast)), row)]
            self.assertEqual(shown(plain_taken(frame, stand, row)[1]), shown(wished), (frame, cast, row))
            self.look_at_hues(beam.picture()[row], wished)

    def look_at_hues(self, hues, strips):
        """Each hue is to be one of those of the greatest rank that covers its spot; all pots are unlike."""
        for x, hue in enumerate(hues):
            covers = [
                (rank, strip[x - left]) for number, left, rank, strip in strips
                if 0 <= x - left < len(strip) and strip[x - left] != 0
            ]
            inks = [ink for rank, ink in covers if rank == max(covers)[0]] or [0]
            self.assertIn(hue, [POTS[ink] for ink in inks])

    def test_no_cast(self):
        self.assertEqual(cast_for((4, 4, 0, 12), BOOK, [], 0, 0)[:2], ("cast", ()))
        self.assertTrue(self.look((4, 4, 0, 12), BOOK, [], 0, 0))
        self.assertTrue(self.look((4, 4, 0, 12), (), [], 12, 40))

    def test_who_has_no_row_is_left_out(self):
        cast = [(0, 0, -3, 0, 0), (0, 0, 4, 1, 1), (1, 0, 1000, 0, 0), (1, 0, -1, 0, 0), (0, 0, -1000, 0, 0)]
        for many in (0, 1, 5):
            self.assertTrue(self.look((4, 4, 0, 12), BOOK, cast, many, 40))

    def test_beside_the_picture_counts_too(self):
        for x in (-1000, -3, 4, 1000):
            self.assertEqual(cast_for((4, 4, 0, 12), BOOK, [(1, x, 2, 0, 0)], 0, 0), ("row", 2))
            self.assertTrue(self.look((4, 4, 0, 12), BOOK, [(1, x, 2, 0, 0)], 1, 0))

    def test_over_the_upper_and_the_lower_edge(self):
        for y in (-2, -1, 2, 3):
            for turn in range(4):
                self.assertTrue(self.look((4, 4, 1, 12), BOOK, [(0, 1, y, 1, turn)], 1, 0))
        # Above the frame both need rows, within it one has row 0 alone and the other row 1.
        cast = [(0, 1, -2, 1, 0), (0, 1, 1, 2, 3)]
        self.assertTrue(self.look((4, 4, 0, 12), BOOK, cast, 1, 0))
        self.assertFalse(self.look((4, 4, 0, 12), BOOK, cast, 1, 1))

    def test_one_slot_handed_on(self):
        cast = [(1, 1, 3, 0, 1), (0, -1, 0, 2, 3), (2, 2, 4, 3, 0), (2, 2, 6, 3, 2), (1, 5, 8, 1, 0)]
        for frame in ((6, 10, 0, 12), (6, 10, 2, 2), (1, 10, 0, 2)):
            self.assertTrue(self.look(frame, BOOK, cast, 1, 0))
            self.assertFalse(self.look(frame, BOOK, cast, 0, 0))
            self.assertFalse(self.look(frame, BOOK, cast, 1, 1))
            self.assertTrue(self.look(frame, BOOK, cast, 2, 1))

    def test_the_row_is_told_with_the_rest(self):
        cast = [(1, 0, 2, 0, 0), (1, 0, 5, 0, 0)]
        self.assertEqual(cast_for((4, 9, 0, 12), BOOK, cast, 1, 3), ("row", 5))
        self.assertTrue(self.look((4, 9, 0, 12), BOOK, cast, 1, 2))

    def test_alike_ones_are_shown_each(self):
        for many in range(5):
            self.assertIs(self.look((4, 4, 0, 12), BOOK, [(0, 1, 1, 1, 0)] * 3, many, 0), many >= 3)

    def test_deeds_are_timed(self):
        cast = [(1, k % 5, k, k % 4, k % 3) for k in range(40)]
        word, movers, timed = cast_for((7, 40, 3, 12), BOOK, cast, 2, 0)
        ticks = [tick for tick, deed in timed]
        self.assertEqual(ticks, sorted(ticks))
        self.assertTrue(all(0 <= tick < ticks_of((7, 40, 3, 12)) for tick in ticks))
        self.assertTrue(self.look((7, 40, 3, 12), BOOK, cast, 1, 0))

    def test_many(self):
        rng = random.Random(231)
        casts = 0
        for k in range(500):
            frame = some_frame(rng, 9, rng.choice((1, 6, 20, 40)))
            many = rng.choice((0, 1, 2, 3, 5, 12))
            frame = frame[:3] + (rng.randint(many, 12),)
            book = tuple(some_block(rng, rng.randint(1, 4), rng.randint(1, 4), 3) for k in range(3))
            cast = []
            for k in range(rng.choice((1, 2, 5, 12, 40))):
                place = rng.randint(-5, frame[0] + 2), rng.randint(-5, frame[1] + 2)
                cast.append((rng.randrange(3), *place, rng.randint(0, 3), rng.randint(0, 3)))
            before = copy.deepcopy(cast)
            casts += self.look(frame, book, cast, many, rng.choice((0, 0, 1, 4, 40)))
            self.assertEqual(cast, before)
        self.assertTrue(100 < casts < 450, casts)

    def test_told_lists_are_the_askers_own(self):
        cast = [(1, 1, 3, 0, 1), (0, -1, 0, 2, 3)]
        told = cast_for((6, 10, 0, 12), BOOK, cast, 1, 0)
        kept = copy.deepcopy(told)
        self.assertNotEqual(told[2], [])
        told[2].clear()
        self.assertEqual(cast_for((6, 10, 0, 12), BOOK, cast, 1, 0), kept)


if __name__ == "__main__":
    unittest.main()
