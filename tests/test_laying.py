"""Points 14, 15 and 16: timed deeds, what is laid with them, what is refused, and which deeds slip."""

import copy
import random
import unittest

from anything import SIXTY, odd_things
from glowrow.beam import Beam
from glowrow.errors import NoDeed, NoFrame, NoStand, NoTick
from glowrow.laying import laid, slips
from plain import plain_laid
from worlds import some_frame, some_stand, some_timed

POTS = tuple(range(20, 36))
FLOOR = ((1, 0, 2), (0, 3, 0))
BOOK = (((4, 5), (6, 0)), ((7,),))
STAND = (FLOOR, (0, 0), BOOK, ((0, 1, 0, 1, 0), (1, 2, 0, 0, 0), (1, 2, 0, 3, 0)), POTS)
FRAME = (4, 2, 1, 2)
TICKS = 10
GOOD = ("pot", 0, 9)


class Laid(unittest.TestCase):
    def look(self, frame, stand, timed):
        beam, wished = laid(frame, stand, timed), plain_laid(frame, stand, timed)
        self.assertIsInstance(beam, Beam)
        self.assertEqual(beam.tick(), frame[1] * (frame[0] + frame[2]))
        self.assertIs(beam.is_over(), True)
        self.assertEqual(beam.stand(), wished.stand)
        self.assertEqual(beam.picture(), wished.picture)
        self.assertEqual(beam.touches(), wished.touches())
        self.assertEqual(beam.grounds(), wished.grounds())
        self.assertEqual(beam.lost(), wished.lost)

    def test_without_deeds(self):
        beam = laid(FRAME, STAND, [])
        self.assertEqual(beam.picture(), [[21, 24, 25, 21], [20, 26, 20, 20]])
        self.assertEqual(beam.touches(), [(0, 1, 0, 2)])
        self.assertEqual(beam.grounds(), [(0, 0, 2), (1, 0, 2)])
        self.assertEqual(beam.lost(), [(0, 2)])
        self.assertEqual(beam.stand(), STAND)

    def test_a_deed_just_ahead_of_its_tick(self):
        for tick, row in (
            (0, [9, 26, 9, 9]), (5, [9, 26, 9, 9]), (6, [20, 26, 9, 9]), (7, [20, 26, 9, 9]), (8, [20, 26, 20, 9]),
            (9, [20, 26, 20, 20]),
        ):
            beam = laid(FRAME, STAND, [(tick, GOOD)])
            self.assertEqual(beam.picture(), [[21, 24, 25, 21], row], tick)
            self.assertEqual(beam.stand()[4][0], 9)

    def test_deeds_at_the_first_and_the_last_tick(self):
        beam = laid(FRAME, STAND, [(0, ("pot", 1, 50)), (9, ("pot", 1, 51)), (9, ("rank", 0, 3))])
        self.assertEqual(beam.picture(), [[50, 24, 25, 50], [20, 26, 20, 20]])
        self.assertEqual(beam.stand()[4][1], 51)
        self.assertEqual(beam.stand()[3][0], (0, 1, 0, 3, 0))
        beam = laid((4, 2, 0, 2), STAND, [(7, GOOD)])
        self.assertEqual(beam.picture(), [[21, 24, 25, 21], [20, 26, 20, 9]])

    def test_several_deeds_of_one_tick_in_their_order(self):
        one, two = (6, ("pot", 0, 1)), (6, ("pot", 0, 2))
        self.assertEqual(laid(FRAME, STAND, [one, two]).picture()[1], [20, 26, 2, 2])
        self.assertEqual(laid(FRAME, STAND, [two, one]).picture()[1], [20, 26, 1, 1])

    def test_deeds_in_a_gap_and_amid_a_row(self):
        self.assertEqual(laid(FRAME, STAND, [(4, ("shift", 0, 1))]).picture()[1], [21, 26, 22, 21])
        self.assertEqual(laid(FRAME, STAND, [(1, ("shift", 0, 1))]).picture(), [[21, 24, 25, 21], [21, 26, 22, 21]])
        self.assertEqual(laid(FRAME, STAND, [(6, ("shift", 0, 1))]).picture(), [[21, 24, 25, 21], [20, 26, 20, 20]])

    def test_small_frames(self):
        rng = random.Random(141)
        for k in range(250):
            frame, stand = some_frame(rng), some_stand(rng)
            self.look(frame, stand, some_timed(rng, frame, stand, rng.choice((0, 1, 2, 5, 12))))

    def test_greater_frames(self):
        rng = random.Random(142)
        for frame in ((40, 40, 20, 12), (40, 1, 0, 3), (1, 40, 20, 0), (23, 31, 1, 4)):
            stand = some_stand(rng, 12)
            self.look(frame, stand, some_timed(rng, frame, stand, 60))

    def test_more_than_two_hundred(self):
        rng = random.Random(143)
        stand = some_stand(rng)
        self.look((20, 20, 2, 3), stand, some_timed(rng, (20, 20, 2, 3), stand, 300))

    def test_touches_are_of_the_taken_rows(self):
        # The mover comes onto the other one behind the row's begin, so only the next row shows it there.
        stand = (((0,),), (0, 0), (((1,), (1,)),), ((0, 0, 0, 1, 0), (0, 1, 0, 1, 0)), POTS)
        self.assertEqual(laid((2, 2, 0, 2), stand, [(1, ("move", 0, 1, 0))]).touches(), [(0, 1, 1, 1)])
        self.assertEqual(laid((2, 2, 0, 2), stand, [(0, ("move", 0, 1, 0))]).touches(), [(0, 1, 0, 1)])
        self.assertEqual(laid((2, 2, 0, 2), stand, [(3, ("move", 0, 1, 0))]).touches(), [])

    def test_what_is_handed_in_stays_and_is_not_kept(self):
        timed = [(0, GOOD), (6, ("shift", 1, 0)), (6, ("pot", 0, 2))]
        before = copy.deepcopy(timed)
        beam = laid(FRAME, STAND, timed)
        self.assertEqual(timed, before)
        picture, stand = beam.picture(), beam.stand()
        timed.clear()
        self.assertEqual((beam.picture(), beam.stand()), (picture, stand))

    def test_told_lists_are_the_askers_own(self):
        beam = laid(FRAME, STAND, [])
        for ask in (beam.picture, beam.touches, beam.grounds, beam.lost):
            told, before = ask(), copy.deepcopy(ask())
            self.assertNotEqual(told, [])
            for part in told:
                if isinstance(part, list):
                    part.clear()
            told.clear()
            self.assertEqual(ask(), before)


BAD_TICKS = (
    [(-1, GOOD)], [(TICKS, GOOD)], [(TICKS + 1, GOOD)], [(SIXTY, GOOD)], [(-SIXTY, GOOD)],
    [(0, GOOD), (TICKS, GOOD)], [(-1, GOOD), (0, GOOD)], [(5, GOOD), (4, GOOD)], [(1, GOOD), (0, GOOD)],
    [(0, GOOD), (9, GOOD), (8, GOOD), (9, GOOD)], [(3, GOOD), (3, GOOD), (2, GOOD)],
)
BAD_DEEDS = (
    ("pot", 16, 0), ("pot", 0, 64), ("move", 3, 0, 0), ("shape", 0, 2), ("rank", 0, 4), ("turn", 0, 4), ["pot", 0, 9],
    ("pot", 0), ("shift", 0, 1001), ("pots", 0, 9), ("pot", 0, True),
)


class Refused(unittest.TestCase):
    """Each of the refusals, by laid and by slips alike."""

    def refused(self, refusal, frame, stand, timed, at):
        for ask in (laid, slips):
            with self.assertRaises(refusal, msg=(ask, at)):
                ask(frame, stand, timed)

    def test_no_frame(self):
        for at, thing in enumerate(odd_things() + [list(FRAME), (0, 2, 1, 2), (4, 2, 1, 13)]):
            self.refused(NoFrame, thing, STAND, [], at)
            self.refused(NoFrame, thing, None, [(-1, None)], at)

    def test_no_stand(self):
        for at, thing in enumerate(odd_things() + [list(STAND), STAND[:4], STAND[:4] + (POTS[:15],)]):
            self.refused(NoStand, FRAME, thing, [], at)
            self.refused(NoStand, FRAME, thing, [(-1, None)], at)
            self.refused(NoStand, FRAME, thing, [(0, None)], at)

    def test_no_tick(self):
        for at, timed in enumerate(BAD_TICKS):
            self.refused(NoTick, FRAME, STAND, timed, at)

    def test_the_last_tick_and_like_ticks_are_good(self):
        timed = [(0, GOOD), (0, GOOD), (TICKS - 1, GOOD), (TICKS - 1, GOOD)]
        self.assertIs(laid(FRAME, STAND, timed).is_over(), True)
        self.assertEqual(slips(FRAME, STAND, timed), [])

    def test_no_deed(self):
        for at, thing in enumerate(odd_things() + list(BAD_DEEDS)):
            self.refused(NoDeed, FRAME, STAND, [(0, thing)], at)
            self.refused(NoDeed, FRAME, STAND, [(0, GOOD), (9, thing)], at)
            self.refused(NoDeed, FRAME, STAND, [(3, thing), (3, GOOD)], at)

    def test_no_tick_goes_ahead_of_no_deed(self):
        for at, timed in enumerate(BAD_TICKS):
            for thing in BAD_DEEDS[:3] + (None, ()):
                self.refused(NoTick, FRAME, STAND, [(tick, thing) for tick, deed in timed], at)
                self.refused(NoTick, FRAME, STAND, [(0, thing)] + timed, at)
                self.refused(NoTick, FRAME, STAND, timed + [(TICKS - 1, thing)], at)

    def test_what_is_refused_changes_nothing(self):
        for timed in BAD_TICKS + tuple([(0, GOOD), (1, deed)] for deed in BAD_DEEDS):
            before = copy.deepcopy(timed)
            with self.assertRaises((NoTick, NoDeed)):
                laid(FRAME, STAND, timed)
            self.assertEqual(timed, before)


def plain_slips(frame, stand, timed):
    """Point 16, word by word."""
    picture = plain_laid(frame, stand, timed).picture
    told = []
    for at in range(len(timed)):
        others = list(timed)
        tick, deed = others.pop(at)
        pictures = [plain_laid(frame, stand, others).picture, plain_laid(frame, stand, [(0, deed)] + others).picture]
        if picture not in pictures:
            told.append(at)
    return told


class Slips(unittest.TestCase):
    def test_none(self):
        self.assertEqual(slips(FRAME, STAND, []), [])

    def test_in_time(self):
        self.assertEqual(slips(FRAME, STAND, [(0, ("pot", 1, 50))]), [])
        # On the first row no ink 6 shows, so it is early enough there still.
        self.assertEqual(slips(FRAME, STAND, [(5, ("pot", 6, 50))]), [])
        self.assertEqual(slips(FRAME, STAND, [(6, ("pot", 6, 50))]), [])

    def test_late(self):
        self.assertEqual(slips(FRAME, STAND, [(1, ("pot", 1, 50))]), [0])
        self.assertEqual(slips(FRAME, STAND, [(3, ("pot", 1, 50))]), [0])
        self.assertEqual(slips(FRAME, STAND, [(5, ("shift", 0, 1))]), [0])

    def test_so_late_that_it_does_nothing(self):
        self.assertEqual(slips(FRAME, STAND, [(4, ("pot", 1, 50))]), [])
        self.assertEqual(slips(FRAME, STAND, [(9, ("pot", 0, 50))]), [])
        self.assertEqual(slips(FRAME, STAND, [(6, ("shift", 0, 1))]), [])

    def test_without_effect(self):
        self.assertEqual(slips(FRAME, STAND, [(3, ("pot", 1, 21)), (5, ("move", 0, 1, 0)), (6, ("pot", 15, 0))]), [])

    def test_done_twice(self):
        # Each by itself can be left out, since the other one does the same.
        self.assertEqual(slips(FRAME, STAND, [(1, ("pot", 1, 50)), (1, ("pot", 1, 50))]), [])
        self.assertEqual(slips(FRAME, STAND, [(1, ("pot", 1, 50)), (2, ("pot", 1, 51))]), [1])
        self.assertEqual(slips(FRAME, STAND, [(0, ("pot", 1, 50)), (1, ("pot", 1, 51))]), [1])

    def test_first_means_ahead_of_all_others(self):
        # Put first, the second deed would be undone by the one at tick 0.
        self.assertEqual(slips(FRAME, STAND, [(0, ("pot", 1, 50)), (0, ("pot", 1, 51))]), [1])

    def test_rising_places(self):
        timed = [(0, ("pot", 9, 1)), (1, ("pot", 1, 50)), (5, ("pot", 0, 51)), (7, ("pot", 0, 52)), (8, ("pot", 0, 53))]
        self.assertEqual(slips(FRAME, STAND, timed), [1, 3, 4])

    def test_many(self):
        rng = random.Random(161)
        seen = 0
        for k in range(120):
            frame, stand = some_frame(rng, 6, 6), some_stand(rng)
            timed = some_timed(rng, frame, stand, rng.choice((1, 2, 4, 8)))
            wished = plain_slips(frame, stand, timed)
            self.assertEqual(slips(frame, stand, timed), wished, (frame, stand, timed))
            seen += len(wished)
        self.assertGreater(seen, 20)

    def test_forty_deeds_of_a_greater_frame(self):
        rng = random.Random(162)
        frame, stand = (16, 16, 2, 4), some_stand(rng, 12)
        timed = some_timed(rng, frame, stand, 40)
        self.assertEqual(slips(frame, stand, timed), plain_slips(frame, stand, timed))

    def test_what_is_handed_in_stays_and_the_told_list_is_the_askers_own(self):
        timed = [(1, ("pot", 1, 50)), (5, ("shift", 0, 1))]
        before = copy.deepcopy(timed)
        told = slips(FRAME, STAND, timed)
        self.assertIs(type(told), list)
        self.assertEqual(told, [0, 1])
        told.clear()
        self.assertEqual(slips(FRAME, STAND, timed), [0, 1])
        self.assertEqual(timed, before)


if __name__ == "__main__":
    unittest.main()
