"""Points 6 and 7: what a shape is, and its strips as it stands turned."""

import copy
import unittest

from anything import SIXTY, odd_things
from glowrow.shapes import is_shape, strip_of

# All rows and all inks are unlike, so no turn can pass for another one.
UNLIKE = ((1, 2, 3, 4), (5, 6, 7, 8), (9, 10, 11, 12))
UNLIKE_TURNED = {
    0: UNLIKE,
    1: ((4, 3, 2, 1), (8, 7, 6, 5), (12, 11, 10, 9)),
    2: ((9, 10, 11, 12), (5, 6, 7, 8), (1, 2, 3, 4)),
    3: ((12, 11, 10, 9), (8, 7, 6, 5), (4, 3, 2, 1)),
}
SHAPES = (UNLIKE, ((0,),), ((15,),), ((0, 1), (2, 3)), ((1, 2, 3, 4, 5, 6, 7, 8),), ((1,), (2,), (3,), (4,)))


def block(high, wide):
    """A shape of so many rows and inks, be there such a one or not."""
    return ((3,) * wide,) * high


def with_ink(ink):
    """The same shape with another thing in the place of an ink, at each place in turn."""
    told = []
    for row in range(2):
        for spot in range(3):
            rows = [[4, 5, 6], [7, 8, 9]]
            rows[row][spot] = ink
            told.append((tuple(rows[0]), tuple(rows[1])))
    return told


class IsShape(unittest.TestCase):
    def test_ordinary_shapes(self):
        for shape in SHAPES:
            self.assertIs(is_shape(shape), True, shape)

    def test_every_count_of_rows_and_inks(self):
        for high in range(12):
            for wide in range(12):
                wished = 1 <= high <= 8 and 1 <= wide <= 8
                self.assertIs(is_shape(block(high, wide)), wished, (high, wide))

    def test_edges_of_the_counts(self):
        for high, wide in ((1, 1), (1, 8), (8, 1), (8, 8)):
            self.assertIs(is_shape(block(high, wide)), True, (high, wide))
        for high, wide in ((0, 0), (1, 0), (8, 0), (1, 9), (9, 1), (8, 9), (9, 8), (2000, 1), (1, 2000)):
            self.assertIs(is_shape(block(high, wide)), False, (high, wide))

    def test_rows_of_unlike_lengths(self):
        for shape in (((1,), (1, 2)), ((1, 2), (1,)), ((1, 2), (3, 4), (5,)), ((1,), ()), ((), (1,))):
            self.assertIs(is_shape(shape), False, shape)

    def test_every_ink(self):
        for ink in range(16):
            for shape in with_ink(ink):
                self.assertIs(is_shape(shape), True, shape)

    def test_what_is_no_ink(self):
        for ink in (-1, -2, 16, 17, SIXTY, -SIXTY, True, False, None, "1", "", [], [1], (), (1,)):
            for shape in with_ink(ink):
                self.assertIs(is_shape(shape), False, shape)

    def test_lists_in_a_tuples_place(self):
        self.assertIs(is_shape([(1, 2), (3, 4)]), False)
        self.assertIs(is_shape(([1, 2], (3, 4))), False)
        self.assertIs(is_shape(((1, 2), [3, 4])), False)
        self.assertIs(is_shape([[1, 2], [3, 4]]), False)

    def test_other_kinds_in_a_rows_place(self):
        for row in (0, 1, SIXTY, True, None, "12", "", (), ((1, 2),)):
            self.assertIs(is_shape(((1, 2), row)), False, row)
            self.assertIs(is_shape((row, (1, 2))), False, row)

    def test_things_of_other_kinds(self):
        for at, thing in enumerate(odd_things()):
            self.assertIs(is_shape(thing), False, at)

    def test_nothing_handed_in_is_changed(self):
        for thing in ([(1, 2), (3, 4)], ([1, 2], [3, 4]), [[1, 2], [3]], ((1, [2]),)):
            before = copy.deepcopy(thing)
            is_shape(thing)
            self.assertEqual(thing, before)


class Strips(unittest.TestCase):
    def test_each_turn_at_each_row(self):
        for turn, rows in UNLIKE_TURNED.items():
            for row, strip in enumerate(rows):
                told = strip_of(UNLIKE, turn, row)
                self.assertEqual(told, strip, (turn, row))
                self.assertIs(type(told), tuple)

    def test_rows_that_the_shape_lacks(self):
        for shape in SHAPES:
            high = len(shape)
            for turn in range(4):
                for row in (-1, -2, -high, -high - 1, -SIXTY, high, high + 1, 2 * high, SIXTY):
                    told = strip_of(shape, turn, row)
                    self.assertEqual(told, (), (shape, turn, row))
                    self.assertIs(type(told), tuple)

    def test_clear_inks_stay_in_the_strip(self):
        self.assertEqual(strip_of(((0, 1, 0, 0),), 0, 0), (0, 1, 0, 0))
        self.assertEqual(strip_of(((0, 1, 0, 0),), 1, 0), (0, 0, 1, 0))

    def test_the_smallest_shape_stands_alike_in_each_turn(self):
        for turn in range(4):
            self.assertEqual(strip_of(((7,),), turn, 0), (7,))

    def test_the_greatest_shape(self):
        shape = tuple([tuple([(row + 3 * spot) % 16 for spot in range(8)]) for row in range(8)])
        for row in range(8):
            self.assertEqual(strip_of(shape, 0, row), shape[row])
            self.assertEqual(strip_of(shape, 1, row), tuple(reversed(shape[row])))
            self.assertEqual(strip_of(shape, 2, row), shape[7 - row])
            self.assertEqual(strip_of(shape, 3, row), tuple(reversed(shape[7 - row])))


if __name__ == "__main__":
    unittest.main()
