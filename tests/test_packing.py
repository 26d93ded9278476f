"""Points 36 and 37: packings there and back, the briefest and the first of these, and what is no packing."""

import copy
import random
import unittest

from glowrow.errors import NoText
from glowrow.packing import packed, unpacked
from plans import SIGNS, changed_texts, no_texts

NUMBER_OF = {sign: number for number, sign in enumerate(SIGNS)}


def flat(picture):
    return [hue for row in picture for hue in row]


def head(picture):
    return SIGNS[len(picture[0])] + SIGNS[len(picture)]


def all_parts(hues, wide, at):
    """Every part that may lay spots from a place on: pairs (text, where it ends)."""
    told = []
    for many in range(1, min(63, len(hues) - at) + 1):
        laid = hues[at:at + many]
        told.append(("!" + SIGNS[many] + "".join(SIGNS[hue] for hue in laid), at + many))
        if len(set(laid)) == 1:
            told.append(("*" + SIGNS[many] + SIGNS[laid[0]], at + many))
        if at >= wide and laid == [hues[place - wide] for place in range(at, at + many)]:
            told.append(("^" + SIGNS[many], at + many))
    return told


def all_packings(picture):
    """Every packing of a small picture."""
    hues, wide = flat(picture), len(picture[0])
    tails = {len(hues): [""]}
    for at in range(len(hues) - 1, -1, -1):
        tails[at] = [text + tail for text, end in all_parts(hues, wide, at) for tail in tails[end]]
    return [head(picture) + tail for tail in tails[0]]


def plain_packed(picture):
    """Point 37 for greater pictures: the fewest signs by numbers alone, then the first text sign by sign."""
    hues, wide = flat(picture), len(picture[0])
    fewest = {len(hues): 0}
    parts = {}
    for at in range(len(hues) - 1, -1, -1):
        parts[at] = all_parts(hues, wide, at)
        fewest[at] = min(len(text) + fewest[end] for text, end in parts[at])
    text, front = head(picture), {(0, "")}
    for k in range(fewest[0]):
        begun = set()
        for at, rest in front:
            if rest:
                begun.add((at, rest))
            else:
                begun.update((end, part) for part, end in parts[at] if len(part) + fewest[end] == fewest[at])
        sign = min(rest[0] for at, rest in begun)
        front = {(at, rest[1:]) for at, rest in begun if rest[0] == sign}
        text += sign
    return text


def plain_unpacked(text):
    """Point 36, sign by sign; None where a text is no packing."""
    signs = list(text)

    def number(low, high):
        told = NUMBER_OF.get(signs.pop(0) if signs else None, -1)
        if not low <= told <= high:
            raise LookupError
        return told

    try:
        wide, high = number(1, 40), number(1, 40)
        hues = []
        while signs:
            word = signs.pop(0)
            if word not in "!*^":
                return None
            many = number(1, 63)
            if word == "!":
                hues += [number(0, 63) for k in range(many)]
            elif word == "*":
                hues += [number(0, 63)] * many
            else:
                for k in range(many):
                    if len(hues) < wide:
                        return None
                    hues.append(hues[len(hues) - wide])
    except LookupError:
        return None
    if len(hues) != wide * high:
        return None
    return [hues[at:at + wide] for at in range(0, len(hues), wide)]


def some_hues(rng, wide, high):
    """A picture with stretches of one hue and rows alike, of few or of many hues."""
    hues = rng.sample(range(64), rng.choice((1, 2, 3, 10, 64)))
    go_on, above = rng.choice((0, 50, 90)), rng.choice((0, 50, 90))
    told = []
    for at in range(wide * high):
        if at >= wide and rng.randrange(100) < above:
            told.append(told[at - wide])
        elif told and rng.randrange(100) < go_on:
            told.append(told[-1])
        else:
            told.append(rng.choice(hues))
    return [told[at:at + wide] for at in range(0, len(told), wide)]


def some_packing(rng, picture):
    """A packing put together of any parts."""
    hues, wide, text, at = flat(picture), len(picture[0]), head(picture), 0
    while at < len(hues):
        part, at = rng.choice(all_parts(hues, wide, at))
        text += part
    return text


class Packed(unittest.TestCase):
    def look(self, picture, wished):
        before = copy.deepcopy(picture)
        told = packed(picture)
        self.assertEqual(picture, before)
        self.assertIs(type(told), str)
        self.assertEqual(told, wished, picture)
        self.assertEqual(unpacked(told), picture)
        self.assertEqual(plain_unpacked(told), picture)

    def test_known_packings(self):
        self.look([[0]], "11!10")
        self.look([[63]], "11!1-")
        self.look([[1, 2]], "21!212")
        self.look([[1, 1]], "21*21")
        self.look([[1, 1, 1, 1, 1, 2]], "61*51!12")
        self.look([[5], [5]], "12*25")
        # Of two that are as brief as one another the first.
        self.look([[1, 1, 1, 2, 3]], "51!511123")
        self.look([[1, 2], [1, 2]], "22!212^2")
        self.look([[7] * 40] * 2, "E2*+7^i")

    def test_of_one_spot(self):
        for hue in range(64):
            self.look([[hue]], "11!1" + SIGNS[hue])

    def test_every_picture_of_few_spots(self):
        for wide, high in ((1, 1), (2, 1), (3, 1), (4, 1), (5, 1), (1, 2), (1, 3), (2, 2), (3, 2), (1, 5), (2, 3)):
            for number in range(3 ** (wide * high)):
                hues = [(0, 10, 40)[number // 3 ** at % 3] for at in range(wide * high)]
                picture = [hues[at:at + wide] for at in range(0, len(hues), wide)]
                self.look(picture, min(all_packings(picture), key=lambda text: (len(text), text)))

    def test_small_pictures(self):
        rng = random.Random(371)
        for k in range(200):
            picture = some_hues(rng, *rng.choice(((4, 2), (2, 4), (8, 1), (1, 8), (7, 1), (3, 2))))
            wished = min(all_packings(picture), key=lambda text: (len(text), text))
            self.look(picture, wished)
            self.assertEqual(plain_packed(picture), wished)

    def test_middling_pictures(self):
        rng = random.Random(372)
        for k in range(120):
            picture = some_hues(rng, rng.choice((1, 2, 7, 13, 40)), rng.choice((1, 2, 5, 9)))
            self.look(picture, plain_packed(picture))

    def test_lines_about_the_greatest_count(self):
        for wide, high in ((21, 3), (32, 2), (9, 7), (40, 2), (31, 2), (5, 13), (40, 4), (1, 40), (40, 1)):
            rising = [[(x + wide * row) % 64 for x in range(wide)] for row in range(high)]
            for picture in ([[3] * wide] * high, rising, [[x % 64 for x in range(wide)]] * high):
                self.look(picture, plain_packed(picture))

    def test_forty_by_forty(self):
        rng = random.Random(373)
        pictures = [some_hues(rng, 40, 40) for k in range(4)]
        pictures += [[[0] * 40] * 40, [[rng.randrange(64) for x in range(40)] for row in range(40)]]
        for picture in pictures:
            self.look(picture, plain_packed(picture))

    def test_no_packing_is_shorter_than_the_told_one(self):
        rng = random.Random(374)
        for k in range(200):
            picture = some_hues(rng, rng.randint(1, 12), rng.randint(1, 12))
            told = packed(picture)
            for other in range(5):
                text = some_packing(rng, picture)
                self.assertLessEqual((len(told), told), (len(text), text))


class Unpacked(unittest.TestCase):
    def refused(self, text):
        with self.assertRaises(NoText, msg=repr(text)[:200]):
            unpacked(text)

    def look(self, text):
        """Looks that a text is read or refused as it should be, and tells whether it is read."""
        wished = plain_unpacked(text)
        if wished is None:
            self.refused(text)
            return False
        self.assertEqual(unpacked(text), wished, text)
        return True

    def test_known_packings(self):
        self.assertEqual(unpacked("11!10"), [[0]])
        self.assertEqual(unpacked("11*1-"), [[63]])
        self.assertEqual(unpacked("22!212^2"), [[1, 2], [1, 2]])
        self.assertEqual(unpacked("23*31^3"), [[1, 1], [1, 1], [1, 1]])
        self.assertEqual(unpacked("32!1a!2bc^1*2d"), [[10, 11, 12], [10, 13, 13]])
        self.assertEqual(unpacked("13!17^1^1"), [[7], [7], [7]])

    def test_parts_over_the_rows_ends(self):
        self.assertEqual(unpacked("23!512345!16"), [[1, 2], [3, 4], [5, 6]])
        self.assertEqual(unpacked("32*49!2ab"), [[9, 9, 9], [9, 10, 11]])
        self.assertEqual(unpacked("23!3123^3"), [[1, 2], [3, 2], [3, 2]])

    def test_nothing_above_the_first_row(self):
        for text in ("11^1", "21!11^1", "21^2", "22^2!212", "22!11^1!212", "22!11^3"):
            self.refused(text)
        self.assertTrue(self.look("22!212^2"))
        self.assertTrue(self.look("22*21^2"))

    def test_counts(self):
        for text in ("11!0", "11*01", "12!11^0", "11!10!0", "11!10*00", "12!0!212"):
            self.refused(text)
        self.assertEqual(unpacked("93*r1"), [[1] * 9] * 3)
        self.assertEqual(unpacked("l3*-1"), [[1] * 21] * 3)
        self.assertEqual(unpacked("x2*y1^w"), [[1] * 33] * 2)

    def test_spots_too_many_or_too_few(self):
        for text in ("11", "11!10!10", "11!210", "11*20", "21!10", "21*10", "12!10", "12!10^2", "22!3123", "12*30"):
            self.refused(text)

    def test_sizes(self):
        for wide in range(64):
            for high in (0, 1, 2, 39, 40, 41, 63):
                text = SIGNS[wide] + SIGNS[high]
                left = wide * high
                while left > 0:
                    text += "*" + SIGNS[min(63, left)] + "7"
                    left -= min(63, left)
                self.assertEqual(self.look(text), 1 <= wide <= 40 and 1 <= high <= 40, text)

    def test_any_parts(self):
        rng = random.Random(361)
        for k in range(300):
            picture = some_hues(rng, rng.choice((1, 3, 8, 20)), rng.choice((1, 2, 7, 20)))
            text = some_packing(rng, picture)
            self.assertEqual(unpacked(text), picture)
            self.assertEqual(plain_unpacked(text), picture)

    def test_many_small_parts_of_a_great_picture(self):
        self.assertEqual(unpacked("EE" + "!15" * 40 + "^1" * 1560), [[5] * 40] * 40)
        self.assertEqual(unpacked("xE" + "!15" * 1320), [[5] * 33] * 40)

    def test_one_sign_another_one_left_out_put_in_or_exchanged(self):
        read = [self.look(text) for text in changed_texts("43!3a10*5-^3!1Z") if "\n" not in text]
        self.assertTrue(50 < sum(read) < len(read) // 2, (sum(read), len(read)))

    def test_cut_off_and_told_twice(self):
        text = "43!3a10*5-^3!1Z"
        self.assertTrue(self.look(text))
        for at in range(len(text)):
            self.refused(text[:at])
            self.refused(text + text[at:])
            self.look(text[at:])
        self.refused(text * 2)

    def test_told_packings_changed(self):
        rng = random.Random(362)
        for k in range(300):
            text = packed(some_hues(rng, rng.randint(1, 9), rng.randint(1, 9)))
            for other in range(20):
                at, sign = rng.randrange(len(text) + 1), rng.choice("!*^0123456789az-+ ~")
                self.look(rng.choice((text[:at] + sign + text[at:], text[:at] + sign + text[at + 1:], text[:at])))

    def test_texts_of_chance(self):
        rng = random.Random(363)
        read = 0
        for k in range(20000):
            text = rng.choice(("11", "12", "21", "22")) + "".join(rng.choice("!*^1201") for k in range(rng.randint(2, 8)))
            read += self.look(text)
        self.assertGreater(read, 50)

    def test_odd_and_long_texts(self):
        for text in (
            "", " ", "1", "!", "11", "!!!!", "~", "10", "01", "00", "11 !10", "11!10 ", " 11!10", "11!1 ", "11?10", "11!",
            "11!1", "11*1", "11*", "12!10^", "11!1!", "11*1*", "11*11^", "E" * 4000, "EE" + "*-1" * 1300, "EE" + "!" * 3998,
            "EE*E1" + "^-" * 1990,
        ):
            self.refused(text)

    def test_things_that_are_no_text(self):
        for at, thing in enumerate(no_texts() + [["11!10"], ("11!10",), list("11!10"), tuple("11!10")]):
            with self.assertRaises(NoText, msg=at):
                unpacked(thing)

    def test_the_told_lists_are_the_askers_own(self):
        told = unpacked("22*21^2")
        self.assertEqual([type(row) for row in told], [list, list])
        told[0].clear()
        self.assertEqual(told[1], [1, 1])
        told.clear()
        self.assertEqual(unpacked("22*21^2"), [[1, 1], [1, 1]])


if __name__ == "__main__":
    unittest.main()
