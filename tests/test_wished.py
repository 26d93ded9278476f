"""Points 34 and 35: the wishes that a picture tells, what bars them, and the lone pot."""

import copy
import random
import unittest

from glowrow.laying import laid
from glowrow.tables import table_for, timed_table
from glowrow.wished import lone_pot, wishes_of
from plain import plain_ink, plain_laid, plain_taken
from worlds import some_deed, some_frame, some_stand

POTS = tuple(range(20, 36))
STAND = (((1, 0, 2), (0, 3, 0)), (0, 0), (((4, 5), (6, 0)), ((7,),)), ((0, 1, 0, 1, 0), (1, 2, 0, 0, 0)), POTS)
FRAME = (4, 2, 1, 2)
# By inks the picture is 1 4 5 1 / 0 6 0 0; its ticks are 0 to 3 and 5 to 8.
PICTURE = [[21, 24, 25, 21], [20, 26, 20, 20]]


def with_hue(picture, row, spot, hue):
    told = copy.deepcopy(picture)
    told[row][spot] = hue
    return told


def shown(frame, stand):
    """The inks that show of a stand, by rows."""
    return [[plain_ink(plain_taken(frame, stand, row), x) for x in range(frame[0])] for row in range(frame[1])]


def plain_wishes(frame, stand, picture):
    """Point 34, word by word."""
    inks = shown(frame, stand)
    barred = [
        (row, one, other) for row in range(frame[1]) for one in range(frame[0]) for other in range(one + 1, frame[0])
        if inks[row][one] == inks[row][other] and picture[row][one] != picture[row][other]
    ]
    if barred:
        return ("bars",) + min(barred)
    triples = []
    for row in range(frame[1]):
        for x in range(frame[0]):
            if (row, inks[row][x], picture[row][x]) not in triples:
                triples.append((row, inks[row][x], picture[row][x]))
    return ("wishes", sorted(triples))


def plain_lone(frame, stand, picture):
    """Point 35, by trying each deed that gives a pot one of the picture's hues, with each tick."""
    inks, pots = shown(frame, stand), stand[4]
    row_ticks = frame[0] + frame[2]

    def lays(tick, ink, hue):
        for row in range(frame[1]):
            for x in range(frame[0]):
                changed = inks[row][x] == ink and row * row_ticks + x >= tick
                if picture[row][x] != (hue if changed else pots[inks[row][x]]):
                    return False
        return True

    if lays(0, None, None):
        return ("same",)
    for ink in range(16):
        for hue in sorted({hue for row in picture for hue in row}):
            ticks = [tick for tick in range(frame[1] * row_ticks) if lays(tick, ink, hue)]
            if ticks:
                assert ticks == list(range(ticks[0], ticks[-1] + 1))
                return ("pot", ink, hue, ticks[0], ticks[-1])
    return ("none",)


def some_picture(rng, frame, stand):
    """A picture of the frame, in one way or another laid of the stand."""
    way = rng.randrange(6)
    last = frame[1] * (frame[0] + frame[2]) - 1
    if way == 0:
        hues = rng.choice((1, 2, 64))
        return [[rng.randrange(hues) for x in range(frame[0])] for row in range(frame[1])]
    inks = shown(frame, stand)
    timed = []
    for k in range((0, 0, 1, 1, 2, 6)[way]):
        ink = rng.choice((rng.choice(rng.choice(inks)), rng.choice(rng.choice(inks)), rng.randrange(16)))
        timed.append((rng.randint(0, last), ("pot", ink, rng.randrange(64))))
    if way == 5:
        timed = [(tick - tick % (frame[0] + frame[2]), deed) for tick, deed in timed]
    picture = plain_laid(frame, stand, sorted(timed)).picture
    if way == 1 or rng.randrange(8) == 0:
        picture[rng.randrange(frame[1])][rng.randrange(frame[0])] = rng.randrange(64)
    return picture


class WishesOf(unittest.TestCase):
    def look(self, frame, stand, picture):
        """Looks at what is told, and tells it."""
        before = copy.deepcopy(picture)
        told = wishes_of(frame, stand, picture)
        self.assertEqual(picture, before)
        self.assertIs(type(told), tuple)
        self.assertEqual(told, plain_wishes(frame, stand, picture), (frame, stand, picture))
        if told[0] == "wishes":
            self.assertIs(type(told[1]), list)
            self.assertEqual(told[1], sorted(set(told[1])))
            self.table_lays(frame, stand, picture, told[1])
        return told

    def table_lays(self, frame, stand, picture, wishes):
        """Looks that with a table for the wishes the picture is laid."""
        word, table = table_for(frame[1], 16, stand[4], wishes)
        self.assertEqual(word, "table")
        timed = timed_table(frame, table)
        self.assertEqual(laid(frame, stand, timed).picture(), picture)
        self.assertEqual(plain_laid(frame, stand, timed).picture, picture)

    def test_the_picture_of_the_stand(self):
        self.assertEqual(
            self.look(FRAME, STAND, PICTURE),
            ("wishes", [(0, 1, 21), (0, 4, 24), (0, 5, 25), (1, 0, 20), (1, 6, 26)]),
        )

    def test_other_hues_row_by_row(self):
        self.assertEqual(
            self.look(FRAME, STAND, [[5, 5, 5, 5], [63, 0, 63, 63]]),
            ("wishes", [(0, 1, 5), (0, 4, 5), (0, 5, 5), (1, 0, 63), (1, 6, 0)]),
        )

    def test_bars(self):
        self.assertEqual(self.look(FRAME, STAND, with_hue(PICTURE, 0, 3, 0)), ("bars", 0, 0, 3))
        self.assertEqual(self.look(FRAME, STAND, with_hue(PICTURE, 0, 0, 0)), ("bars", 0, 0, 3))
        self.assertEqual(self.look(FRAME, STAND, with_hue(PICTURE, 1, 0, 0)), ("bars", 1, 0, 2))
        self.assertEqual(self.look(FRAME, STAND, with_hue(PICTURE, 1, 2, 0)), ("bars", 1, 0, 2))
        self.assertEqual(self.look(FRAME, STAND, with_hue(PICTURE, 1, 3, 0)), ("bars", 1, 0, 3))

    def test_the_first_row_the_least_spot_and_the_least_other_one(self):
        bare = (((0,),), (0, 0), (), (), POTS)
        self.assertEqual(self.look((5, 1, 0, 0), bare, [[1, 1, 1, 2, 3]]), ("bars", 0, 0, 3))
        self.assertEqual(self.look((5, 1, 0, 0), bare, [[1, 2, 1, 2, 3]]), ("bars", 0, 0, 1))
        self.assertEqual(self.look((2, 3, 4, 0), bare, [[1, 1], [2, 3], [4, 5]]), ("bars", 1, 0, 1))
        two = (((1, 2),), (0, 0), (), (), POTS)
        self.assertEqual(self.look((6, 1, 0, 0), two, [[1, 2, 1, 3, 1, 2]]), ("bars", 0, 1, 3))
        self.assertEqual(self.look((6, 1, 0, 0), two, [[1, 2, 1, 3, 4, 2]]), ("bars", 0, 0, 4))
        self.assertEqual(self.look((6, 1, 0, 0), two, [[1, 2, 1, 2, 1, 3]]), ("bars", 0, 1, 5))

    def test_inks_of_one_hue_are_no_bar(self):
        two = (((1, 2),), (0, 0), (), (), POTS)
        self.assertEqual(self.look((4, 1, 0, 0), two, [[7, 7, 7, 7]]), ("wishes", [(0, 1, 7), (0, 2, 7)]))

    def test_every_change_of_one_spot(self):
        for row in range(2):
            for spot in range(4):
                for hue in range(64):
                    self.look(FRAME, STAND, with_hue(PICTURE, row, spot, hue))

    def test_one_change_of_a_pot_at_any_tick(self):
        for tick in range(10):
            for ink in range(16):
                picture = plain_laid(FRAME, STAND, [(tick, ("pot", ink, 50))]).picture
                told = self.look(FRAME, STAND, picture)
                if tick in (0, 4, 5, 9):
                    self.assertEqual(told[0], "wishes")

    def test_frames_of_one_spot_and_great_ones(self):
        self.assertEqual(self.look((1, 1, 0, 0), STAND, [[9]]), ("wishes", [(0, 1, 9)]))
        rng = random.Random(341)
        frame, stand = (40, 40, 20, 12), some_stand(rng, 12)
        rows = [[rng.randrange(64) for ink in range(16)] for row in range(40)]
        picture = [[pots[ink] for ink in inks] for pots, inks in zip(rows, shown(frame, stand))]
        self.assertEqual(self.look(frame, stand, picture)[0], "wishes")
        picture = [[rng.randrange(64) for x in range(40)] for row in range(40)]
        self.look(frame, stand, picture)

    def test_many(self):
        rng = random.Random(342)
        words = {"wishes": 0, "bars": 0}
        for k in range(500):
            frame, stand = some_frame(rng, 6, 6), some_stand(rng)
            words[self.look(frame, stand, some_picture(rng, frame, stand))[0]] += 1
        self.assertGreater(min(words.values()), 100, words)

    def test_the_told_list_is_the_askers_own(self):
        told = wishes_of(FRAME, STAND, PICTURE)
        before = copy.deepcopy(told)
        told[1].clear()
        picture = copy.deepcopy(PICTURE)
        again = wishes_of(FRAME, STAND, picture)
        self.assertEqual(again, before)
        picture[0][0] = 5
        self.assertEqual(again, before)


class LonePot(unittest.TestCase):
    def look(self, frame, stand, picture):
        """Looks at what is told, and tells it."""
        before = copy.deepcopy(picture)
        told = lone_pot(frame, stand, picture)
        self.assertEqual(picture, before)
        self.assertIs(type(told), tuple)
        self.assertEqual(told, plain_lone(frame, stand, picture), (frame, stand, picture))
        return told

    def test_the_picture_of_the_stand(self):
        self.assertEqual(self.look(FRAME, STAND, PICTURE), ("same",))

    def test_one_change_at_any_tick_of_any_ink(self):
        for tick in range(10):
            for ink in range(16):
                for hue in (50, POTS[ink]):
                    deed = ("pot", ink, hue)
                    picture = plain_laid(FRAME, STAND, [(tick, deed)]).picture
                    told = self.look(FRAME, STAND, picture)
                    if picture == PICTURE:
                        self.assertEqual(told, ("same",))
                    else:
                        self.assertEqual(told[:3], deed)
                        self.assertTrue(told[3] <= tick <= told[4])

    def test_just_the_ticks_that_lay_it(self):
        self.assertEqual(self.look(FRAME, STAND, [[9, 24, 25, 9], [20, 26, 20, 20]]), ("pot", 1, 9, 0, 0))
        self.assertEqual(self.look(FRAME, STAND, [[21, 24, 25, 9], [20, 26, 20, 20]]), ("pot", 1, 9, 1, 3))
        self.assertEqual(self.look(FRAME, STAND, [[21, 24, 25, 21], [20, 9, 20, 20]]), ("pot", 6, 9, 0, 6))
        self.assertEqual(self.look(FRAME, STAND, [[21, 24, 25, 21], [9, 26, 9, 9]]), ("pot", 0, 9, 0, 5))
        self.assertEqual(self.look(FRAME, STAND, [[21, 24, 25, 21], [20, 26, 9, 9]]), ("pot", 0, 9, 6, 7))
        self.assertEqual(self.look(FRAME, STAND, [[21, 24, 25, 21], [20, 26, 20, 9]]), ("pot", 0, 9, 8, 8))

    def test_ticks_in_a_gap(self):
        bare = (((0,),), (0, 0), (), (), POTS)
        self.assertEqual(self.look((2, 2, 3, 0), bare, [[20, 20], [9, 9]]), ("pot", 0, 9, 2, 5))

    def test_two_changes_and_an_early_one(self):
        for picture in (
            [[9, 24, 25, 9], [8, 26, 8, 8]], [[9, 24, 25, 21], [20, 26, 20, 20]], [[21, 24, 25, 21], [20, 26, 9, 20]],
            [[9, 24, 25, 8], [20, 26, 20, 20]], [[21, 24, 25, 21], [9, 26, 9, 8]], [[21, 9, 9, 21], [20, 26, 20, 20]],
            [[21, 24, 25, 21], [9, 26, 20, 20]], [[0, 0, 0, 0], [0, 0, 0, 0]],
        ):
            self.assertEqual(self.look(FRAME, STAND, picture), ("none",), picture)

    def test_every_change_of_one_spot(self):
        for row in range(2):
            for spot in range(4):
                for hue in range(64):
                    told = self.look(FRAME, STAND, with_hue(PICTURE, row, spot, hue))
                    self.assertEqual(told == ("same",), hue == PICTURE[row][spot])

    def test_frames_of_one_spot_and_great_ones(self):
        self.assertEqual(self.look((1, 1, 0, 0), STAND, [[9]]), ("pot", 1, 9, 0, 0))
        self.assertEqual(self.look((1, 1, 5, 0), STAND, [[21]]), ("same",))
        rng = random.Random(351)
        frame, stand = (40, 40, 20, 12), some_stand(rng, 12)
        ink = shown(frame, stand)[20][20]
        timed = [(20 * 60 + 20, ("pot", ink, (stand[4][ink] + 1) % 64))]
        picture = plain_laid(frame, stand, timed).picture
        word, told_ink, hue, first, last = lone_pot(frame, stand, picture)
        self.assertEqual(("pot", told_ink, hue), timed[0][1])
        for tick in range(max(first - 2, 0), min(last + 3, 2400)):
            lays = plain_laid(frame, stand, [(tick, timed[0][1])]).picture == picture
            self.assertEqual(lays, first <= tick <= last)

    def test_many(self):
        rng = random.Random(352)
        words = {"same": 0, "pot": 0, "none": 0}
        for k in range(500):
            frame, stand = some_frame(rng, 5, 5), some_stand(rng)
            picture = some_picture(rng, frame, stand)
            told = self.look(frame, stand, picture)
            words[told[0]] += 1
            if told[0] == "pot":
                for tick in (told[3], told[4]):
                    self.assertEqual(laid(frame, stand, [(tick, told[:3])]).picture(), picture)
        self.assertGreater(min(words.values()), 60, words)

    def test_pictures_of_other_deeds(self):
        rng = random.Random(353)
        for k in range(200):
            frame, stand = some_frame(rng, 5, 5), some_stand(rng)
            self.look(frame, stand, plain_laid(frame, stand, [(0, some_deed(rng, stand))]).picture)


if __name__ == "__main__":
    unittest.main()
