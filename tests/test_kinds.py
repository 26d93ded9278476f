"""Point 2: what a whole number is."""

import unittest

from anything import SIXTY
from glowrow.kinds import is_whole, is_within


class WholeNumbers(unittest.TestCase):
    def test_ints_are_whole_numbers(self):
        for number in (0, 1, -1, 40, SIXTY, -SIXTY):
            self.assertIs(is_whole(number), True)

    def test_truths_and_other_kinds_are_none(self):
        for thing in (True, False, None, "", "1", [], [1], (), (1,)):
            self.assertIs(is_whole(thing), False)

    def test_within_bounds(self):
        for thing in (-3, 0, 5):
            self.assertIs(is_within(thing, -3, 5), True)
        for thing in (-4, 6, SIXTY, -SIXTY, True, False, None, "0", [0], (0,)):
            self.assertIs(is_within(thing, -3, 5), False)


if __name__ == "__main__":
    unittest.main()
