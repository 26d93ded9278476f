"""Points 24 and 25: pictures and plans as texts, there and back."""

import copy
import itertools
import random
import re
import unittest

from glowrow.errors import NoText
from glowrow.frames import is_frame
from glowrow.laying import laid
from glowrow.stands import is_stand
from glowrow.texts import picture_text, plan_text, read_picture, read_plan
from plans import (
    ALL_SIGNS, FRAME, LEAST, LEAST_TEXT, PLAN, SIGNS, STAND, TEXT, changed_texts, no_texts, plain_read, with_other_lines,
    with_other_words,
)
from worlds import some_frame, some_stand, some_timed


class Pictures(unittest.TestCase):
    def test_every_sign(self):
        for number, sign in enumerate(SIGNS):
            self.assertEqual(picture_text([[number]]), sign)
            self.assertEqual(read_picture(sign), [[number]])

    def test_the_signs_by_some_of_them(self):
        self.assertEqual(picture_text([[0, 9, 10, 35, 36, 61, 62, 63]]), "09azAZ+-")

    def test_rows(self):
        picture = [[1, 2, 3], [40, 50, 63]]
        self.assertEqual(picture_text(picture), "123\nEO-")
        self.assertEqual(read_picture("123\nEO-"), picture)
        self.assertEqual(picture_text([[5], [6], [7]]), "5\n6\n7")
        self.assertEqual(read_picture("5\n6\n7"), [[5], [6], [7]])

    def test_counts_of_rows_and_spots(self):
        for high in (1, 2, 39, 40, 41, 42, 80):
            for wide in (1, 2, 39, 40, 41, 42, 80):
                text = "\n".join(["a" * wide] * high)
                if high <= 40 and wide <= 40:
                    self.assertEqual(read_picture(text), [[10] * wide] * high)
                    self.assertEqual(picture_text([[10] * wide] * high), text)
                else:
                    self.refused(text)

    def refused(self, text):
        with self.assertRaises(NoText, msg=repr(text)[:80]):
            read_picture(text)

    def test_what_is_no_picture(self):
        for text in (
            "", "\n", "1\n", "\n1", "1\n\n1", "12\n1", "1\n12", "12\n34\n5", " ", "1 2", " 1", "1 ", "1/2", "!", "*1",
            "12\n34\n", "\n12\n34", "12\n\n34", "12 \n34", "1_", "1.", "~", "12\n3~", "-1 2", "(1)",
        ):
            self.refused(text)

    def test_every_sign_that_is_none(self):
        for sign in ALL_SIGNS:
            if sign not in SIGNS and sign != "\n":
                for text in (sign, "1" + sign, sign + "1", "12\n1" + sign, sign * 2):
                    self.refused(text)

    def test_things_that_are_no_text(self):
        for at, thing in enumerate(no_texts()):
            with self.assertRaises(NoText, msg=at):
                read_picture(thing)

    def test_there_and_back(self):
        rng = random.Random(241)
        for k in range(200):
            wide, high = rng.choice((1, 3, 17, 40)), rng.choice((1, 4, 40))
            picture = [[rng.randrange(64) for x in range(wide)] for row in range(high)]
            before = copy.deepcopy(picture)
            text = picture_text(picture)
            self.assertEqual(text, "\n".join("".join(SIGNS[hue] for hue in row) for row in picture))
            self.assertEqual(read_picture(text), before)
            self.assertEqual(picture, before)

    def test_one_sign_another_one_left_out_or_put_in(self):
        text = "0aZ\n+-9\n123"
        for other in changed_texts(text):
            lines = other.split("\n")
            if all(re.fullmatch(r"[0-9a-zA-Z+-]+", line) and len(line) == len(lines[0]) for line in lines):
                self.assertEqual(picture_text(read_picture(other)), other)
            else:
                self.refused(other)

    def test_told_lists_are_the_askers_own(self):
        told = read_picture("12\n34")
        self.assertIs(type(told), list)
        told[0].clear()
        told.clear()
        self.assertEqual(read_picture("12\n34"), [[1, 2], [3, 4]])
        rows = read_picture("12\n12")
        rows[0].clear()
        self.assertEqual(rows, [[], [1, 2]])

    def test_a_laid_picture(self):
        self.assertEqual(picture_text(laid(FRAME, STAND, []).picture()), "-+-+\nlklk")


class Plans(unittest.TestCase):
    def refused(self, text):
        with self.assertRaises(NoText, msg=repr(text)[:300]):
            read_plan(text)

    def look(self, text):
        """Looks that a text is read or refused as it should be, and tells whether it is read."""
        wished = plain_read(text)
        if wished is None:
            self.refused(text)
            return False
        self.assertEqual(read_plan(text), wished, text)
        self.assertEqual(plan_text(*wished), text)
        return True

    def test_known_plans(self):
        self.assertEqual(plan_text(*PLAN), TEXT)
        self.assertEqual(read_plan(TEXT), PLAN)
        self.assertEqual(plan_text(*LEAST), LEAST_TEXT)
        self.assertEqual(read_plan(LEAST_TEXT), LEAST)

    def test_the_greatest_plan(self):
        stand = (
            ((15,) * 16,) * 16, (-1000, -1000), (((15,) * 8,) * 8,) * 8, ((7, -1000, -1000, 3, 3),) * 12, (63,) * 16,
        )
        plan = ((40, 40, 20, 12), stand, [(2399, ("move", 11, -1000, -1000))] * 200)
        text = plan_text(*plan)
        self.assertTrue(text.startswith("frame 40 40 20 12\nfloor ffffffffffffffff/ffff"))
        self.assertTrue(text.endswith("\nat 2399 move 11 -1000 -1000"))
        self.assertEqual(read_plan(text), plan)

    def test_kinds(self):
        told = read_plan(TEXT)
        self.assertEqual([type(part) for part in told], [tuple, tuple, list])
        self.assertTrue(all(type(pair) is tuple for pair in told[2]))
        self.assertIs(is_frame(told[0]), True)
        self.assertIs(is_stand(told[1]), True)

    def test_there_and_back(self):
        rng = random.Random(251)
        for k in range(200):
            frame, stand = some_frame(rng, 40, 40), some_stand(rng, 12)
            timed = some_timed(rng, frame, stand, rng.choice((0, 1, 10, 200)))
            before = copy.deepcopy(timed)
            text = plan_text(frame, stand, timed)
            self.assertTrue(self.look(text))
            self.assertEqual(read_plan(text), (frame, stand, before))
            self.assertEqual(timed, before)

    def test_one_sign_another_one_left_out_or_put_in(self):
        read = [self.look(text) for text in changed_texts(TEXT)]
        self.assertTrue(100 < sum(read) < len(read) // 4, (sum(read), len(read)))

    def test_one_word_another_one_left_out_put_in_or_exchanged(self):
        for text in with_other_words(TEXT):
            self.look(text)

    def test_one_line_left_out_put_in_or_exchanged(self):
        for text in with_other_lines(TEXT):
            self.look(text)

    def test_lines_that_must_be_there(self):
        lines = LEAST_TEXT.split("\n")
        for at in range(4):
            self.refused("\n".join(lines[:at] + lines[at + 1:]))
            self.refused("\n".join(lines[:at] + [lines[at]] + lines[at:]))
        for text in (LEAST_TEXT + "\n", "\n" + LEAST_TEXT, LEAST_TEXT + " ", " " + LEAST_TEXT, LEAST_TEXT + "\n\n", ""):
            self.refused(text)

    def test_lines_in_another_order(self):
        one, two, three, four = LEAST_TEXT.split("\n")
        for lines in itertools.permutations((one, two, three, four)):
            if lines != (one, two, three, four):
                self.refused("\n".join(lines))
        self.refused(LEAST_TEXT + "\nmover off 0 0 0 0\nshape 1")
        self.refused(LEAST_TEXT + "\nat 0 pot 0 0\nmover off 0 0 0 0")
        self.refused(LEAST_TEXT + "\nat 0 pot 0 0\nshape 1")
        self.refused("shape 1\n" + LEAST_TEXT)

    def test_numbers_written_otherwise(self):
        for number in ("00", "-0", "+0", "0 ", " 0", "0.", "0x0", "0_0", "", "1e0", "\t0"):
            self.refused(LEAST_TEXT.replace("shift 0", "shift " + number))
        for number in ("01", "+1", "1 ", "001", "--1", "1-", "-01", "- 1", "1,0"):
            self.refused(LEAST_TEXT.replace("shift 0", "shift " + number))
        self.assertEqual(read_plan(LEAST_TEXT.replace("shift 0", "shift -1"))[1][1], (-1, 0))

    def test_bounds(self):
        for old, good, bad in (
            ("frame 1 1 0 0", "frame 40 40 20 12", "frame 41 40 20 12"), ("frame 1", "frame 2", "frame 0"),
            ("1 0 0", "1 20 0", "1 21 0"), ("1 0 0", "1 0 12", "1 0 13"), ("1 0 0", "1 0 0", "1 -1 0"),
            ("floor 0", "floor f", "floor g"), ("floor 0", "floor " + "1" * 16, "floor " + "1" * 17),
            ("floor 0", "floor 01/10", "floor 01/1"), ("floor 0", "floor 0" + "/0" * 15, "floor 0" + "/0" * 16),
            ("shift 0 0", "shift 1000 -1000", "shift 1001 0"), ("shift 0 0", "shift 0 0", "shift 0 off"),
            ("pots 0", "pots -", "pots "), ("pots 0", "pots +", "pots 00"), ("pots 0", "pots Z", "pots 0/"),
        ):
            self.assertEqual(plan_text(*read_plan(LEAST_TEXT.replace(old, good))), LEAST_TEXT.replace(old, good))
            self.refused(LEAST_TEXT.replace(old, bad))

    def test_ticks_and_deeds_that_laying_would_refuse(self):
        head = TEXT.partition("\nat")[0]
        for lines in (
            "at -1 pot 0 0", "at 10 pot 0 0", "at 5 pot 0 0\nat 4 pot 0 0", "at 0 pot 16 0", "at 0 pot 0 64",
            "at 0 pot 0", "at 0 pot 0 0 0", "at 0 move 2 0 0", "at 0 shape 0 2", "at 0 shape off 0", "at 0 rank 0 4",
            "at 0 turn 0 off", "at 0 pots 0 0", "at 0", "at 0 ", "at", "at off pot 0 0", "at 0 off", "at 0 off 0 0",
            "at 00 pot 0 0", "at 0 0 0 0",
        ):
            self.refused(head + "\n" + lines)
        for lines in ("at 9 pot 0 0", "at 0 pot 15 63", "at 4 pot 0 0\nat 4 pot 0 0", "at 0 shape 0 off"):
            self.assertTrue(self.look(head + "\n" + lines))

    def test_an_off_mover_and_the_shapes_of_the_book(self):
        self.assertTrue(self.look(LEAST_TEXT + "\nmover off 0 0 0 0"))
        self.assertFalse(self.look(LEAST_TEXT + "\nmover 0 0 0 0 0"))
        self.assertTrue(self.look(LEAST_TEXT + "\nshape 1\nmover 0 0 0 0 0"))
        self.assertFalse(self.look(LEAST_TEXT + "\nshape 1\nmover 1 0 0 0 0"))
        self.assertTrue(self.look(LEAST_TEXT + "\nshape 1" * 8 + "\nmover 7 0 0 0 0" * 12))
        self.assertFalse(self.look(LEAST_TEXT + "\nshape 1" * 9))
        self.assertFalse(self.look(LEAST_TEXT + "\nmover off 0 0 0 0" * 13))

    def test_long_texts(self):
        for text in ("9" * 20000, "frame " + "9" * 19000, "\n" * 20000, " " * 20000, "at " * 6000, "/" * 20000):
            self.refused(text)
            self.refused(LEAST_TEXT + "\n" + text)
        for word in ("shift 0", "frame 1", "floor 0", "pots 0"):
            self.refused(LEAST_TEXT.replace(word, word + "0" * 15000))

    def test_things_that_are_no_text(self):
        for at, thing in enumerate(no_texts()):
            with self.assertRaises(NoText, msg=at):
                read_plan(thing)

    def test_odd_texts(self):
        for text in ("", " ", "\n", "frame", "frame 1 1 0 0", "plan", "~", "None", "0", picture_text([[1, 2], [3, 4]])):
            self.refused(text)

    def test_told_lists_are_the_askers_own(self):
        told = read_plan(TEXT)
        told[2].clear()
        self.assertEqual(read_plan(TEXT), PLAN)

    def test_a_read_plan_lays_the_same(self):
        self.assertEqual(laid(*read_plan(TEXT)).picture(), laid(*PLAN).picture())


if __name__ == "__main__":
    unittest.main()
