"""The refusals as the interface lists them."""

import unittest

from glowrow import errors

REFUSALS = (
    "NoFrame", "NoStand", "NoTick", "NoDeed", "Over", "Clash", "NoText", "NoScore", "NoFilm", "NoRow",
)


class Refusals(unittest.TestCase):
    def test_any_refusal_is_a_value_error(self):
        self.assertEqual(errors.GlowError.__bases__, (ValueError,))

    def test_each_stands_under_glow_error_alone(self):
        for name in REFUSALS:
            with self.subTest(name=name):
                refusal = getattr(errors, name)
                self.assertEqual(refusal.__name__, name)
                self.assertEqual(refusal.__bases__, (errors.GlowError,))

    def test_no_two_are_the_same(self):
        self.assertEqual(len({getattr(errors, name) for name in REFUSALS}), 10)

    def test_each_is_raised_with_words_and_taken_by_its_name(self):
        for name in REFUSALS:
            refusal = getattr(errors, name)
            for taken in (refusal, errors.GlowError, ValueError):
                with self.subTest(name=name, taken=taken):
                    with self.assertRaises(taken):
                        raise refusal("words")


if __name__ == "__main__":
    unittest.main()
