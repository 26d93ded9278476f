"""Points 10, 11 and 12: the movers on a row, a row taken, and the ink at a spot."""

import copy
import random
import unittest

from anything import SIXTY
from glowrow.rows import ink_at, kept_on, lost_on, taken
from plain import plain_ink, plain_lying, plain_taken
from worlds import some_frame, some_stand

POTS = tuple(range(16))
FLOOR = ((1, 2, 3), (4, 0, 6))
BOOK = (((1, 2), (3, 4), (5, 6)), ((7, 8, 9),), ((0, 10), (11, 0)))
FAR = (-1001, -1000, 1000, 1007, 1008, 2000, -SIXTY, SIXTY, SIXTY - 1, -SIXTY + 1)


def stand_of(*movers, floor=FLOOR, shift=(0, 0), book=BOOK):
    return (floor, shift, book, movers, POTS)


def frame_of(most, wide=8, high=6):
    return (wide, high, 2, most)


class OnARow(unittest.TestCase):
    def test_first_and_last_row_of_a_mover(self):
        for y in (-1000, -2, 0, 1, 4, 1000):
            stand = stand_of((0, 0, y, 0, 0))
            told = [kept_on(frame_of(1), stand, row) for row in range(y - 1, y + 4)]
            self.assertEqual(told, [[], [0], [0], [0], []], y)

    def test_a_shape_of_one_row(self):
        stand = stand_of((1, 0, 3, 0, 2))
        self.assertEqual([kept_on(frame_of(1), stand, row) for row in (2, 3, 4)], [[], [0], []])

    def test_above_in_and_below_the_frame(self):
        stand = stand_of((0, 0, -2, 0, 0), (0, 0, 4, 1, 1), (0, 0, 7, 2, 2))
        told = [kept_on(frame_of(12), stand, row) for row in range(-4, 12)]
        self.assertEqual(told, [[], [], [0], [0], [0], [], [], [], [1], [1], [1], [2], [2], [2], [], []])

    def test_far_off_rows(self):
        stand = stand_of((0, 0, -1000, 0, 0), (0, 0, 1000, 0, 0), (0, 0, 0, 0, 0))
        for most in (0, 1, 12):
            for row in FAR:
                lying = {-1000: [0], 1000: [1]}.get(row, [])
                self.assertEqual(kept_on(frame_of(most), stand, row), lying[:most], row)
                self.assertEqual(lost_on(frame_of(most), stand, row), lying[most:], row)

    def test_who_is_off_lies_nowhere(self):
        stand = stand_of((None, 0, 0, 3, 0), (0, 0, 0, 0, 0), (None, 0, 0, 0, 0), (0, 0, 0, 0, 0))
        self.assertEqual(kept_on(frame_of(1), stand, 0), [1])
        self.assertEqual(lost_on(frame_of(1), stand, 0), [3])
        self.assertEqual(lost_on(frame_of(0), stand, 0), [1, 3])

    def test_beside_the_picture_counts_too(self):
        stand = stand_of((0, -1000, 0, 0, 0), (0, 1000, 0, 0, 0), (0, 8, 0, 0, 0), (0, -2, 0, 0, 0), (0, 0, 0, 3, 0))
        self.assertEqual(kept_on(frame_of(12), stand, 2), [0, 1, 2, 3, 4])
        self.assertEqual(kept_on(frame_of(4), stand, 2), [0, 1, 2, 3])
        self.assertEqual(lost_on(frame_of(4), stand, 2), [4])

    def test_inks_that_are_clear_count_too(self):
        stand = stand_of((0, 0, 0, 0, 0), (1, 0, 0, 3, 0), book=(((0,),), ((5,),)))
        self.assertEqual(kept_on(frame_of(1), stand, 0), [0])
        self.assertEqual(lost_on(frame_of(1), stand, 0), [1])

    def test_the_first_by_number_are_kept_whatever_their_ranks(self):
        stand = stand_of(*[(0, 0, 0, (5 - k) % 4, k % 4) for k in range(12)])
        for most in range(13):
            self.assertEqual(kept_on(frame_of(most), stand, 1), list(range(most)))
            self.assertEqual(lost_on(frame_of(most), stand, 1), list(range(most, 12)))

    def test_most_less_than_equal_to_and_more_than_their_count(self):
        stand = stand_of((0, 0, 5, 0, 0), (0, 0, 0, 0, 0), (1, 0, 1, 0, 0), (0, 0, 1, 0, 0))
        for most, kept, lost in ((0, [], [1, 2, 3]), (2, [1, 2], [3]), (3, [1, 2, 3], []), (4, [1, 2, 3], [])):
            self.assertEqual(kept_on(frame_of(most), stand, 1), kept, most)
            self.assertEqual(lost_on(frame_of(most), stand, 1), lost, most)

    def test_no_movers(self):
        for row in (-1, 0, 5, 6, SIXTY):
            self.assertEqual(kept_on(frame_of(3), stand_of(), row), [])
            self.assertEqual(lost_on(frame_of(0), stand_of(), row), [])

    def test_lists_told_are_the_askers_own(self):
        stand = stand_of((0, 0, 0, 0, 0), (0, 0, 0, 0, 0), (0, 0, 0, 0, 0))
        for ask, wished in ((kept_on, [0, 1]), (lost_on, [2])):
            told = ask(frame_of(2), stand, 0)
            self.assertIs(type(told), list)
            told.clear()
            self.assertEqual(ask(frame_of(2), stand, 0), wished)

    def test_many_stands(self):
        rng = random.Random(101)
        for k in range(300):
            frame, stand = some_frame(rng), some_stand(rng, 12)
            for row in range(-5, 14):
                lying = [number for number, strip in plain_lying(stand, row)]
                self.assertEqual(kept_on(frame, stand, row), lying[:frame[3]], (frame, stand, row))
                self.assertEqual(lost_on(frame, stand, row), lying[frame[3]:], (frame, stand, row))


class Taken(unittest.TestCase):
    def test_the_floor_is_laid_side_by_side(self):
        inks, strips = taken(frame_of(0), stand_of(), 0)
        self.assertEqual(inks, (1, 2, 3, 1, 2, 3, 1, 2))
        self.assertEqual(strips, ())
        told = [taken(frame_of(0), stand_of(), row)[0][:3] for row in range(5)]
        self.assertEqual(told, [FLOOR[0], FLOOR[1], FLOOR[0], FLOOR[1], FLOOR[0]])

    def test_the_floor_shifted(self):
        for shift, row, inks in (
            ((1, 0), 0, (2, 3, 1, 2)), ((2, 0), 0, (3, 1, 2, 3)), ((3, 0), 0, (1, 2, 3, 1)), ((-1, 0), 0, (3, 1, 2, 3)),
            ((0, 1), 0, (4, 0, 6, 4)), ((0, -1), 0, (4, 0, 6, 4)), ((0, -1), 1, (1, 2, 3, 1)),
            ((-2, 3), 1, (2, 3, 1, 2)),
            ((1000, 1000), 0, (2, 3, 1, 2)), ((-1000, -1000), 1, (6, 4, 0, 6)),
        ):
            self.assertEqual(taken((4, 3, 0, 0), stand_of(shift=shift), row)[0], inks, (shift, row))

    def test_the_first_number_shifts_across_and_the_second_down(self):
        floor = ((1, 2, 3, 4), (5, 6, 7, 8), (9, 10, 11, 12))
        stand = stand_of(floor=floor, shift=(1, 2))
        self.assertEqual([taken((4, 4, 0, 0), stand, row)[0] for row in range(4)], [
            (10, 11, 12, 9), (2, 3, 4, 1), (6, 7, 8, 5), (10, 11, 12, 9),
        ])

    def test_strips_of_each_turn(self):
        for turn, rows in (
            (0, ((1, 2), (3, 4), (5, 6))), (1, ((2, 1), (4, 3), (6, 5))),
            (2, ((5, 6), (3, 4), (1, 2))), (3, ((6, 5), (4, 3), (2, 1))),
        ):
            stand = stand_of((None, 0, 0, 0, 0), (0, 4, -1, 2, turn))
            told = [taken(frame_of(1), stand, row)[1] for row in range(3)]
            self.assertEqual(told, [((1, 4, 2, rows[1]),), ((1, 4, 2, rows[2]),), ()], turn)

    def test_strips_of_kept_movers_alone_by_number(self):
        stand = stand_of((2, 5, 0, 3, 0), (None, 0, 0, 0, 0), (1, -7, 1, 0, 0), (0, 900, 0, 1, 0), (1, 0, 1, 1, 0))
        strips = ((0, 5, 3, (11, 0)), (2, -7, 0, (7, 8, 9)), (3, 900, 1, (3, 4)), (4, 0, 1, (7, 8, 9)))
        for most in range(6):
            self.assertEqual(taken(frame_of(most), stand, 1)[1], strips[:most], most)

    def test_kinds(self):
        told = taken(frame_of(2), stand_of((0, 0, 0, 0, 0)), 0)
        self.assertIs(type(told), tuple)
        self.assertEqual([type(part) for part in told], [tuple, tuple])
        self.assertEqual([type(part) for part in told[1]], [tuple])
        self.assertIs(type(told[1][0][3]), tuple)

    def test_many_stands(self):
        rng = random.Random(111)
        for k in range(300):
            frame, stand = some_frame(rng), some_stand(rng, 12)
            before = copy.deepcopy((frame, stand))
            for row in range(frame[1]):
                self.assertEqual(taken(frame, stand, row), plain_taken(frame, stand, row), (frame, stand, row))
            self.assertEqual((frame, stand), before)


class InkAt(unittest.TestCase):
    def inks(self, floor, *strips):
        row_taken = (floor, strips)
        return tuple(ink_at(row_taken, x) for x in range(len(floor)))

    def test_the_floor_by_itself(self):
        self.assertEqual(self.inks((0, 1, 15)), (0, 1, 15))

    def test_a_mover_above_and_beneath_the_floor(self):
        for rank in (1, 2, 3):
            self.assertEqual(self.inks((4, 0, 6, 0), (0, 1, rank, (7, 8))), (4, 7, 8, 0))
        self.assertEqual(self.inks((4, 0, 6, 0), (0, 1, 0, (7, 8))), (4, 7, 6, 0))
        self.assertEqual(self.inks((4, 0, 6, 0), (0, 2, 0, (7, 8))), (4, 0, 6, 8))

    def test_a_movers_clear_ink_covers_nothing(self):
        for rank in range(4):
            self.assertEqual(self.inks((4, 0, 6, 0), (0, 0, rank, (0, 0, 0, 0))), (4, 0, 6, 0))
        self.assertEqual(self.inks((4, 4, 4), (0, 0, 3, (1, 0, 2)), (1, 0, 1, (9, 9, 0))), (1, 9, 2))

    def test_the_greatest_rank_shows(self):
        for one, other, ink in (
            (1, 2, 8), (2, 1, 7), (1, 3, 8), (3, 1, 7), (2, 3, 8), (3, 2, 7),
            (0, 1, 8), (1, 0, 7), (0, 2, 8), (2, 0, 7), (0, 3, 8), (3, 0, 7),
        ):
            self.assertEqual(self.inks((5,), (0, 0, one, (7,)), (1, 0, other, (8,))), (ink,), (one, other))
            self.assertEqual(self.inks((0,), (0, 0, one, (7,)), (1, 0, other, (8,))), (ink,), (one, other))

    def test_of_like_ranks_the_least_number_shows(self):
        for rank in (1, 2, 3):
            self.assertEqual(self.inks((5,), (2, 0, rank, (7,)), (5, 0, rank, (8,)), (11, 0, rank, (9,))), (7,))
        self.assertEqual(self.inks((0,), (2, 0, 0, (7,)), (5, 0, 0, (8,))), (7,))
        self.assertEqual(self.inks((5,), (2, 0, 0, (7,)), (5, 0, 0, (8,))), (5,))
        self.assertEqual(self.inks((5,), (0, 0, 1, (7,)), (1, 0, 2, (8,)), (2, 0, 2, (9,))), (8,))

    def test_movers_over_the_picture_s_edges(self):
        self.assertEqual(self.inks((0, 0, 0), (0, -2, 1, (7, 8, 9))), (9, 0, 0))
        self.assertEqual(self.inks((0, 0, 0), (0, 2, 1, (7, 8, 9))), (0, 0, 7))
        self.assertEqual(self.inks((0, 0, 0), (0, -3, 1, (7, 8, 9)), (1, 3, 1, (7, 8, 9))), (0, 0, 0))
        self.assertEqual(self.inks((0, 0, 0), (0, -1000, 1, (7, 8, 9)), (1, 1000, 1, (7, 8, 9))), (0, 0, 0))

    def test_many_taken_rows(self):
        rng = random.Random(121)
        for k in range(400):
            frame, stand = some_frame(rng), some_stand(rng, 12)
            for row in range(frame[1]):
                row_taken = plain_taken(frame, stand, row)
                for x in range(frame[0]):
                    self.assertEqual(ink_at(row_taken, x), plain_ink(row_taken, x), (row_taken, x))


if __name__ == "__main__":
    unittest.main()
