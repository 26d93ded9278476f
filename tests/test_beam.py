"""Points 13 and 15: how the beam goes, what it lays, who touches whom, what is refused."""

import copy
import random
import unittest

from anything import SIXTY, odd_things
from glowrow.beam import Beam
from glowrow.errors import NoDeed, NoFrame, NoStand, Over
from plain import PlainLay
from worlds import no_deed, some_deed, some_frame, some_stand

POTS = tuple(range(20, 36))
FLOOR = ((1, 0, 2), (0, 3, 0))
BOOK = (((4, 5), (6, 0)), ((7,),))
STAND = (FLOOR, (0, 0), BOOK, ((0, 1, 0, 1, 0), (1, 2, 0, 0, 0), (1, 2, 0, 3, 0)), POTS)
FRAME = (4, 2, 1, 2)
TICKS = 10


def told_of(beam):
    """All that a beam tells."""
    return (
        beam.tick(), beam.stand(), beam.is_over(), beam.picture(), beam.touches(), beam.grounds(), beam.lost(),
    )


def gone(frame, stand, many):
    beam = Beam(frame, stand)
    beam.go(many)
    return beam


class Making(unittest.TestCase):
    def test_a_new_beam(self):
        self.assertEqual(told_of(Beam(FRAME, STAND)), (0, STAND, False, [], [], [], []))

    def test_what_is_no_frame(self):
        wrong = odd_things() + [(0, 2, 1, 2), (4, 41, 1, 2), (4, 2, 21, 2), (4, 2, 1, 13), (4, 2, 1), list(FRAME)]
        wrong += [STAND, [], [FRAME], FRAME + (0,)]
        for at, thing in enumerate(wrong):
            with self.assertRaises(NoFrame, msg=at):
                Beam(thing, STAND)

    def test_what_is_no_stand(self):
        wrong = odd_things() + [STAND[:4], list(STAND), STAND + ((),), FRAME, [STAND]]
        wrong += [((),) + STAND[1:], STAND[:4] + (POTS[:15],), STAND[:3] + (((2, 0, 0, 0, 4),),) + STAND[4:]]
        for at, thing in enumerate(wrong):
            with self.assertRaises(NoStand, msg=at):
                Beam(FRAME, thing)

    def test_no_frame_goes_ahead_of_no_stand(self):
        for thing in (None, (), [], 5, STAND):
            for other in (None, (), [], 5, FRAME):
                with self.assertRaises(NoFrame):
                    Beam(thing, other)


class Going(unittest.TestCase):
    def test_a_known_picture(self):
        beam = gone(FRAME, STAND, TICKS)
        # Spot 2 of row 0 has the floor's ink 2, then mover 0 of rank 1, then mover 1 of rank 0; mover 2 is lost.
        self.assertEqual(beam.picture(), [[21, 24, 25, 21], [20, 26, 20, 20]])
        self.assertEqual(beam.touches(), [(0, 1, 0, 2)])
        self.assertEqual(beam.grounds(), [(0, 0, 2), (1, 0, 2)])
        self.assertEqual(beam.lost(), [(0, 2)])
        self.assertEqual(beam.stand(), STAND)

    def test_tick_by_tick(self):
        beam = Beam(FRAME, STAND)
        pictures = []
        for tick in range(TICKS):
            self.assertEqual((beam.tick(), beam.is_over()), (tick, False))
            pictures.append(beam.picture())
            self.assertIs(beam.go(1), None)
        self.assertEqual((beam.tick(), beam.is_over()), (TICKS, True))
        self.assertEqual(pictures, [
            [], [[21]], [[21, 24]], [[21, 24, 25]], [[21, 24, 25, 21]], [[21, 24, 25, 21]],
            [[21, 24, 25, 21], [20]], [[21, 24, 25, 21], [20, 26]], [[21, 24, 25, 21], [20, 26, 20]],
            [[21, 24, 25, 21], [20, 26, 20, 20]],
        ])

    def test_touches_grounds_and_lost_come_as_the_beam_goes(self):
        beam = Beam(FRAME, STAND)
        self.assertEqual((beam.touches(), beam.grounds(), beam.lost()), ([], [], []))
        beam.go(1)
        self.assertEqual((beam.touches(), beam.grounds(), beam.lost()), ([], [], [(0, 2)]))
        beam.go(1)
        self.assertEqual((beam.touches(), beam.grounds(), beam.lost()), ([], [], [(0, 2)]))
        beam.go(1)
        self.assertEqual(beam.touches(), [(0, 1, 0, 2)])
        self.assertEqual(beam.grounds(), [(0, 0, 2), (1, 0, 2)])
        self.assertEqual(beam.lost(), [(0, 2)])

    def test_going_by_none(self):
        beam = Beam(FRAME, STAND)
        self.assertIs(beam.go(0), None)
        self.assertEqual(told_of(beam), (0, STAND, False, [], [], [], []))
        beam.go(TICKS)
        before = told_of(beam)
        beam.go(0)
        self.assertEqual(told_of(beam), before)

    def test_every_two_parcels_make_the_same(self):
        whole = told_of(gone(FRAME, STAND, TICKS))
        for first in range(TICKS + 1):
            beam = gone(FRAME, STAND, first)
            beam.go(TICKS - first)
            self.assertEqual(told_of(beam), whole, first)

    def test_one_tick_too_many(self):
        for first in range(TICKS + 1):
            beam = gone(FRAME, STAND, first)
            before = told_of(beam)
            for many in (TICKS - first + 1, TICKS - first + 2, 5000, SIXTY):
                with self.assertRaises(Over):
                    beam.go(many)
                self.assertEqual(told_of(beam), before, (first, many))
            beam.go(TICKS - first)
            self.assertIs(beam.is_over(), True)

    def test_the_smallest_frame(self):
        beam = Beam((1, 1, 0, 0), STAND)
        self.assertIs(beam.is_over(), False)
        beam.go(1)
        self.assertEqual((beam.tick(), beam.is_over(), beam.picture()), (1, True, [[21]]))

    def test_the_greatest_frame(self):
        beam = gone((40, 40, 20, 12), STAND, 2400)
        self.assertEqual((beam.tick(), beam.is_over()), (2400, True))
        self.assertEqual([len(row) for row in beam.picture()], [40] * 40)
        with self.assertRaises(Over):
            beam.go(1)

    def test_the_last_gap_is_to_be_gone_too(self):
        beam = gone(FRAME, STAND, TICKS - 1)
        self.assertIs(beam.is_over(), False)
        beam.deed(("pot", 0, 5))
        self.assertEqual(beam.stand()[4][0], 5)


class Deeds(unittest.TestCase):
    def laid_with(self, tick, deed, frame=FRAME, stand=STAND):
        beam = gone(frame, stand, tick)
        self.assertIs(beam.deed(deed), None)
        beam.go(frame[1] * (frame[0] + frame[2]) - tick)
        return beam.picture()

    def test_pots_change_from_the_next_spot_on(self):
        for tick, picture in (
            (0, [[21, 24, 25, 21], [9, 26, 9, 9]]), (5, [[21, 24, 25, 21], [9, 26, 9, 9]]),
            (6, [[21, 24, 25, 21], [20, 26, 9, 9]]), (7, [[21, 24, 25, 21], [20, 26, 9, 9]]),
            (8, [[21, 24, 25, 21], [20, 26, 20, 9]]), (9, [[21, 24, 25, 21], [20, 26, 20, 20]]),
        ):
            self.assertEqual(self.laid_with(tick, ("pot", 0, 9)), picture, tick)

    def test_all_else_changes_from_the_next_row_on(self):
        as_it_was = [[21, 24, 25, 21], [20, 26, 20, 20]]
        for deed, first, second in (
            (("shift", 1, 0), [20, 24, 25, 20], [23, 26, 20, 23]),
            (("shift", 0, 1), [20, 24, 25, 20], [21, 26, 22, 21]),
            (("move", 0, 0, 0), [24, 25, 22, 21], [26, 23, 20, 20]),
            (("move", 0, 1, 1), [21, 20, 27, 21], [20, 24, 25, 20]),
            (("shape", 0, None), [21, 20, 27, 21], [20, 23, 20, 20]),
            (("shape", 0, 1), [21, 27, 22, 21], [20, 23, 20, 20]),
            (("turn", 0, 1), [21, 25, 24, 21], [20, 23, 26, 20]),
            (("turn", 0, 2), [21, 26, 22, 21], [20, 24, 25, 20]),
            (("rank", 0, 0), [21, 24, 22, 21], [20, 23, 20, 20]),
            (("rank", 1, 3), [21, 24, 27, 21], [20, 26, 20, 20]),
        ):
            for tick in range(TICKS):
                wished = [first, second] if tick == 0 else [as_it_was[0], second] if tick <= 5 else as_it_was
                self.assertEqual(self.laid_with(tick, deed), wished, (tick, deed))

    def test_the_stand_changes_at_once(self):
        beam = gone(FRAME, STAND, 2)
        beam.deed(("shift", 5, 6))
        beam.deed(("rank", 1, 2))
        self.assertEqual(beam.stand(), (FLOOR, (5, 6), BOOK, (STAND[3][0], (1, 2, 0, 2, 0), STAND[3][2]), POTS))
        self.assertEqual(beam.tick(), 2)
        self.assertEqual(beam.picture(), [[21, 24]])

    def test_the_last_of_several_deeds_holds(self):
        beam = gone(FRAME, STAND, 5)
        for hue in (1, 2, 3):
            beam.deed(("pot", 0, hue))
        beam.go(5)
        self.assertEqual(beam.picture()[1], [3, 26, 3, 3])

    def test_what_is_no_deed_is_refused(self):
        wrong = odd_things() + [("move", 3, 0, 0), ("shape", 0, 2), ["pot", 0, 0], ("pot", 0, True)]
        for tick in (0, 3, 4, 5, 9):
            beam = gone(FRAME, STAND, tick)
            before = told_of(beam)
            for at, thing in enumerate(wrong):
                with self.assertRaises(NoDeed, msg=at):
                    beam.deed(thing)
                self.assertEqual(told_of(beam), before)

    def test_no_deed_where_no_tick_is_left(self):
        beam = gone(FRAME, STAND, TICKS)
        before = told_of(beam)
        for at, thing in enumerate([("pot", 0, 0), ("shift", 0, 0)] + odd_things()):
            with self.assertRaises(Over, msg=at):
                beam.deed(thing)
            self.assertEqual(told_of(beam), before)


class Touching(unittest.TestCase):
    def test_sorted_and_with_the_first_place(self):
        book = (((1, 1), (1, 1)),)
        movers = ((0, 2, 1, 0, 0), (0, 3, 0, 3, 0), (0, 2, 0, 1, 0), (0, 0, 0, 2, 0))
        beam = gone((6, 4, 0, 12), (((0,),), (0, 0), book, movers, POTS), 24)
        self.assertEqual(beam.touches(), [(0, 1, 1, 3), (0, 2, 1, 2), (1, 2, 0, 3)])
        self.assertEqual(beam.grounds(), [])

    def test_whichever_is_shown(self):
        for floor in (0, 1):
            for ranks in ((0, 0), (0, 3), (3, 0), (2, 2)):
                movers = tuple((0, 1, 0, rank, 0) for rank in ranks)
                beam = gone((3, 1, 0, 12), (((floor,),), (0, 0), (((5,),),), movers, POTS), 3)
                self.assertEqual(beam.touches(), [(0, 1, 0, 1)], (floor, ranks))
                self.assertEqual(beam.grounds(), [(0, 0, 1), (1, 0, 1)] if floor else [], (floor, ranks))

    def test_clear_inks_touch_nothing(self):
        book = (((0, 1),), ((1, 0),))
        beam = gone((3, 1, 0, 12), (((7,),), (0, 0), book, ((0, 0, 0, 1, 0), (1, 0, 0, 1, 0)), POTS), 3)
        self.assertEqual(beam.touches(), [])
        self.assertEqual(beam.grounds(), [(0, 0, 1), (1, 0, 0)])

    def test_who_is_lost_or_beside_the_picture_touches_nothing(self):
        movers = ((0, 0, 0, 1, 0), (0, -1, 0, 1, 0), (0, -1, 0, 1, 0), (0, 0, 0, 1, 0))
        beam = gone((3, 1, 0, 3), (((7,),), (0, 0), (((5,),),), movers, POTS), 3)
        self.assertEqual(beam.touches(), [])
        self.assertEqual(beam.grounds(), [(0, 0, 0)])
        self.assertEqual(beam.lost(), [(0, 3)])

    def test_the_ground_of_the_taken_row_counts(self):
        beam = gone((3, 2, 0, 1), (((0,), (9,)), (0, 0), (((5,),),), ((0, 2, 0, 1, 0),), POTS), 1)
        beam.deed(("shift", 0, 1))
        beam.go(2)
        self.assertEqual(beam.grounds(), [])

    def test_lost_of_each_row_in_order(self):
        movers = ((0, 0, 1, 0, 0), (0, 0, 0, 0, 0), (None, 0, 0, 0, 0), (0, 0, 0, 0, 0))
        stand = (((0,),), (0, 0), (((5,), (5,)),), movers, POTS)
        self.assertEqual(gone((1, 4, 0, 0), stand, 4).lost(), [(0, 1), (0, 3), (1, 0), (1, 1), (1, 3), (2, 0)])
        self.assertEqual(gone((1, 4, 0, 1), stand, 4).lost(), [(0, 3), (1, 1), (1, 3)])
        self.assertEqual(gone((1, 4, 0, 2), stand, 4).lost(), [(1, 3)])
        self.assertEqual(gone((1, 4, 0, 3), stand, 4).lost(), [])


class ToldLists(unittest.TestCase):
    def test_they_are_the_askers_own(self):
        for tick in range(TICKS + 1):
            beam, other = gone(FRAME, STAND, tick), gone(FRAME, STAND, tick)
            for ask in (beam.picture, beam.touches, beam.grounds, beam.lost):
                told = ask()
                self.assertIs(type(told), list)
                for part in told:
                    if isinstance(part, list):
                        part.clear()
                told.clear()
            self.assertEqual(told_of(beam), told_of(other))
            beam.go(TICKS - tick)
            other.go(TICKS - tick)
            self.assertEqual(told_of(beam), told_of(other))

    def test_nothing_done_later_changes_them(self):
        beam = gone(FRAME, STAND, 2)
        told = [beam.picture(), beam.touches(), beam.grounds(), beam.lost()]
        before = copy.deepcopy(told)
        beam.deed(("pot", 0, 1))
        beam.go(8)
        self.assertEqual(told, before)

    def test_kinds(self):
        beam = gone(FRAME, STAND, TICKS)
        self.assertTrue(all(type(row) is list for row in beam.picture()))
        for entry in beam.touches() + beam.grounds() + beam.lost():
            self.assertIs(type(entry), tuple)

    def test_two_beams_of_one_stand(self):
        stand = copy.deepcopy(STAND)
        driven, other = Beam(FRAME, stand), gone(FRAME, stand, 3)
        before = told_of(other)
        for deed in (("pot", 0, 1), ("move", 0, 9, 9), ("shift", 1, 1), ("shape", 1, None)):
            driven.deed(deed)
            driven.go(2)
        self.assertEqual(told_of(other), before)
        self.assertEqual(stand, STAND)
        other.go(7)
        self.assertEqual(told_of(other), told_of(gone(FRAME, STAND, TICKS)))


class ManyBeams(unittest.TestCase):
    """Driven in parcels of any counts, with deeds between, and looked at behind each step."""

    def look(self, beam, frame, stand, timed, tick):
        wished = PlainLay(frame, stand, timed, tick)
        self.assertEqual(beam.tick(), tick)
        self.assertEqual(beam.stand(), wished.stand)
        self.assertEqual(beam.picture(), wished.picture)
        self.assertEqual(beam.touches(), wished.touches())
        self.assertEqual(beam.grounds(), wished.grounds())
        self.assertEqual(beam.lost(), wished.lost)

    def drive(self, rng, frame, stand):
        beam, timed, tick = Beam(frame, stand), [], 0
        ticks = frame[1] * (frame[0] + frame[2])
        while tick < ticks:
            step = rng.randrange(5)
            if step == 0:
                timed.append((tick, some_deed(rng, stand)))
                beam.deed(timed[-1][1])
            elif step == 1:
                with self.assertRaises(NoDeed):
                    beam.deed(no_deed(rng, stand))
            elif step == 2:
                with self.assertRaises(Over):
                    beam.go(ticks - tick + rng.randint(1, 3))
            else:
                many = rng.randint(0, min(ticks - tick, rng.choice((1, 4, 30))))
                beam.go(many)
                tick += many
            self.look(beam, frame, stand, timed, tick)
        self.assertIs(beam.is_over(), True)

    def test_many(self):
        rng = random.Random(131)
        for k in range(120):
            self.drive(rng, some_frame(rng, 7, 6), some_stand(rng))

    def test_a_greater_one(self):
        rng = random.Random(132)
        for k in range(3):
            frame, stand = (40, 30, 3, 4), some_stand(rng, 12)
            beam, timed = Beam(frame, stand), []
            for tick in range(0, 30 * 43, 61):
                timed.append((tick, some_deed(rng, stand)))
                beam.deed(timed[-1][1])
                beam.go(min(61, 30 * 43 - tick))
            self.look(beam, frame, stand, timed, 30 * 43)


if __name__ == "__main__":
    unittest.main()
