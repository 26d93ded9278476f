"""Points 4 and 5: what a frame is, and how its ticks are counted."""

import copy
import unittest

from anything import SIXTY, odd_things
from glowrow.errors import NoTick
from glowrow.frames import begin_of, is_frame, place_of, ticks_of

ORDINARY = (8, 4, 2, 1)
BOUNDS = ((1, 40), (1, 40), (0, 20), (0, 12))
FRAMES = (
    ORDINARY, (5, 3, 0, 2), (1, 1, 0, 0), (1, 1, 20, 0), (40, 40, 20, 12), (40, 1, 0, 12), (1, 40, 3, 4),
    (7, 11, 13, 5),
)


def with_part(at, part):
    """The ordinary frame with another thing at one of its four places."""
    return ORDINARY[:at] + (part,) + ORDINARY[at + 1:]


def places_by_walk(frame):
    """The place of each tick in order, told by going along the rows rather than by reckoning."""
    wide, high, gap, most = frame
    places = []
    for row in range(high):
        places += [(row, spot) for spot in range(wide)]
        places += [(row, None)] * gap
    return places


class IsFrame(unittest.TestCase):
    def test_ordinary_frames(self):
        for frame in FRAMES:
            self.assertIs(is_frame(frame), True, frame)

    def test_each_bound_of_each_number(self):
        for at, (low, high) in enumerate(BOUNDS):
            for part in range(low, high + 1):
                self.assertIs(is_frame(with_part(at, part)), True, (at, part))

    def test_beyond_each_bound_of_each_number(self):
        for at, (low, high) in enumerate(BOUNDS):
            for part in (low - 1, low - 2, -1000, -SIXTY, high + 1, high + 2, 1000, SIXTY):
                self.assertIs(is_frame(with_part(at, part)), False, (at, part))

    def test_a_truth_is_no_number(self):
        for at in range(4):
            for truth in (True, False):
                self.assertIs(is_frame(with_part(at, truth)), False, (at, truth))

    def test_other_kinds_in_the_place_of_a_number(self):
        for at in range(4):
            for part in (None, "1", "", [], [1], (), (1,), ((1,),)):
                self.assertIs(is_frame(with_part(at, part)), False, (at, part))

    def test_a_list_is_no_frame(self):
        for frame in FRAMES:
            self.assertIs(is_frame(list(frame)), False, frame)

    def test_a_part_more_or_less(self):
        for part in (0, 1, 12, None, True, "1", ()):
            self.assertIs(is_frame(ORDINARY + (part,)), False, part)
        for many in range(4):
            self.assertIs(is_frame(ORDINARY[:many]), False, many)
        self.assertIs(is_frame(ORDINARY[1:]), False)

    def test_things_of_other_kinds(self):
        for at, thing in enumerate(odd_things()):
            self.assertIs(is_frame(thing), False, at)

    def test_nothing_handed_in_is_changed(self):
        for thing in ([8, 4, 2, 1], (8, 4, 2, [1]), [[8, 4], [2, 1]]):
            before = copy.deepcopy(thing)
            is_frame(thing)
            self.assertEqual(thing, before)


class Ticks(unittest.TestCase):
    def test_known_counts(self):
        self.assertEqual(ticks_of((8, 4, 2, 1)), 40)
        self.assertEqual(ticks_of((5, 3, 0, 2)), 15)
        self.assertEqual(ticks_of((1, 1, 0, 0)), 1)
        self.assertEqual(ticks_of((40, 40, 20, 12)), 2400)

    def test_counts_by_walk(self):
        for frame in FRAMES:
            self.assertEqual(ticks_of(frame), len(places_by_walk(frame)), frame)

    def test_known_begins(self):
        self.assertEqual([begin_of((8, 4, 2, 1), row) for row in range(4)], [0, 10, 20, 30])
        self.assertEqual([begin_of((5, 3, 0, 2), row) for row in range(3)], [0, 5, 10])

    def test_each_row_begins_at_its_first_spot(self):
        for frame in FRAMES:
            places = places_by_walk(frame)
            for row in range(frame[1]):
                self.assertEqual(begin_of(frame, row), places.index((row, 0)), (frame, row))

    def test_answers_are_whole_numbers(self):
        self.assertIs(type(ticks_of(ORDINARY)), int)
        self.assertIs(type(begin_of(ORDINARY, 3)), int)


class Places(unittest.TestCase):
    def test_first_and_last_tick_and_those_beside_them(self):
        self.assertEqual(place_of(ORDINARY, 0), (0, 0))
        self.assertEqual(place_of(ORDINARY, 1), (0, 1))
        self.assertEqual(place_of(ORDINARY, 38), (3, None))
        self.assertEqual(place_of(ORDINARY, 39), (3, None))
        self.assertEqual(place_of((5, 3, 0, 2), 13), (2, 3))
        self.assertEqual(place_of((5, 3, 0, 2), 14), (2, 4))

    def test_beside_a_gap(self):
        told = [place_of(ORDINARY, tick) for tick in range(6, 12)]
        self.assertEqual(told, [(0, 6), (0, 7), (0, None), (0, None), (1, 0), (1, 1)])

    def test_without_a_gap_no_spot_is_none(self):
        told = [place_of((5, 3, 0, 2), tick) for tick in range(15)]
        self.assertEqual(told, [(row, spot) for row in range(3) for spot in range(5)])

    def test_every_tick_by_walk(self):
        for frame in FRAMES:
            for tick, place in enumerate(places_by_walk(frame)):
                told = place_of(frame, tick)
                self.assertEqual(told, place, (frame, tick))
                self.assertIs(type(told), tuple)

    def test_ticks_that_the_frame_lacks_are_refused(self):
        for frame in FRAMES:
            many = ticks_of(frame)
            for tick in (-1, -2, -many, -SIXTY, many, many + 1, 2 * many, SIXTY):
                with self.subTest(frame=frame, tick=tick):
                    with self.assertRaises(NoTick):
                        place_of(frame, tick)


if __name__ == "__main__":
    unittest.main()
