"""Points 14, 24 and 25 as a whole: from a plan's text to the laid picture's text."""

import random
import unittest

from glowrow.errors import NoText
from glowrow.texts import plan_text
from glowrow.whole import picture_of
from plain import plain_laid
from plans import (
    LEAST_TEXT, SIGNS, TEXT, changed_texts, no_texts, plain_read, with_other_lines, with_other_words,
)
from worlds import some_frame, some_stand, some_timed


def plain_picture_of(text):
    """The text of the picture laid, or None where the text writes no plan."""
    plan = plain_read(text)
    if plan is None:
        return None
    return "\n".join("".join(SIGNS[hue] for hue in row) for row in plain_laid(*plan).picture)


class PictureOf(unittest.TestCase):
    def refused(self, text):
        with self.assertRaises(NoText, msg=repr(text)[:300]):
            picture_of(text)

    def look(self, text):
        """Looks that a text is laid or refused as it should be, and tells whether it is laid."""
        wished = plain_picture_of(text)
        if wished is None:
            self.refused(text)
            return False
        self.assertEqual(picture_of(text), wished, text)
        return True

    def test_known_plans(self):
        self.assertEqual(picture_of(LEAST_TEXT), "0")
        plan = "frame 4 2 1 1\nfloor 01\nshift 0 0\npots abcdefghijklmnop\nshape 22\nmover 0 1 0 1 0"
        self.assertEqual(picture_of(plan), "accb\nabab")
        self.assertEqual(picture_of(plan + "\nat 4 pot 0 63"), "accb\n-b-b")
        self.assertEqual(picture_of(plan + "\nat 2 pot 2 62\nat 5 shift 1 0\nat 5 move 0 -1 1"), "ac+b\n+aba")
        self.assertEqual(picture_of(plan + "\nat 0 shape 0 off"), "abab\nabab")

    def test_ordinary_plans(self):
        rng = random.Random(1)
        for k in range(150):
            frame, stand = some_frame(rng, 12, 12), some_stand(rng, 12)
            self.assertTrue(self.look(plan_text(frame, stand, some_timed(rng, frame, stand, rng.choice((0, 1, 9))))))

    def test_a_great_plan(self):
        rng = random.Random(2)
        frame, stand = (40, 40, 20, 12), some_stand(rng, 12)
        self.assertTrue(self.look(plan_text(frame, stand, some_timed(rng, frame, stand, 200))))

    def test_one_sign_another_one_left_out_put_in_or_exchanged(self):
        laid_at_all = sum([self.look(text) for text in changed_texts(TEXT)])
        self.assertGreater(laid_at_all, 100)

    def test_one_word_another_one_left_out_put_in_or_exchanged(self):
        laid_at_all = sum([self.look(text) for text in with_other_words(TEXT)])
        self.assertGreater(laid_at_all, 20)

    def test_one_line_another_one_left_out_put_in_or_exchanged(self):
        laid_at_all = sum([self.look(text) for text in with_other_lines(TEXT)])
        self.assertGreater(laid_at_all, 20)

    def test_numbers_at_and_beyond_a_bound(self):
        for good, bad in (
            ("frame 40 40 20 12", "frame 41 40 20 12"), ("frame 1 1 0 0", "frame 1 0 0 0"),
            ("frame 1 1 20 0", "frame 1 1 21 0"), ("frame 1 1 0 12", "frame 1 1 0 13"),
            ("frame 1 1 0 0", "frame 1 1 0 -1"),
        ):
            self.assertTrue(self.look(LEAST_TEXT.replace("frame 1 1 0 0", good)))
            self.refused(LEAST_TEXT.replace("frame 1 1 0 0", bad))
        for good, bad in (("1000", "1001"), ("-1000", "-1001"), ("0", "-0"), ("1", "+1"), ("1", "01"), ("-1", "-01")):
            self.assertTrue(self.look(LEAST_TEXT.replace("shift 0", "shift " + good)))
            self.refused(LEAST_TEXT.replace("shift 0", "shift " + bad))
        for good, bad in (("at 0 pot 15 63", "at 0 pot 16 63"), ("at 0 pot 0 0", "at 0 pot 0 64"),
                          ("at 0 shift 0 0", "at 1 shift 0 0"), ("at 0 pot 0 1", "at 00 pot 0 1")):
            self.assertTrue(self.look(LEAST_TEXT + "\n" + good))
            self.refused(LEAST_TEXT + "\n" + bad)

    def test_things_that_are_no_text(self):
        for at, thing in enumerate(no_texts()):
            with self.assertRaises(NoText, msg=at):
                picture_of(thing)

    def test_odd_and_long_texts(self):
        for text in ("", " ", "\n", "0", "frame", "~", "None", "\n" * 20000, "9" * 20000, "/" * 20000, "at " * 6000):
            self.refused(text)


if __name__ == "__main__":
    unittest.main()
