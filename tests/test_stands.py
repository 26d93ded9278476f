"""Points 8 and 9: what a stand is, its deeds, and the stand behind a deed."""

import copy
import random
import unittest

from anything import SIXTY, odd_things
from glowrow.errors import NoDeed
from glowrow.stands import is_deed, is_stand, stand_behind
from parts import part_at, paths, with_part_at
from plain import plain_behind
from worlds import some_deed, some_stand

FLOOR = ((0, 1, 2), (3, 15, 5))
BOOK = (((1, 0), (2, 3)), ((4, 5, 6),), ((7,),))
MOVERS = ((0, 3, -4, 1, 2), (None, -1000, 1000, 0, 0), (2, 5, 6, 3, 3))
POTS = tuple(range(48, 64))
STAND = (FLOOR, (-7, 9), BOOK, MOVERS, POTS)
LEAST = (((0,),), (0, 0), (), (), (0,) * 16)
GREATEST = (
    ((15,) * 16,) * 16, (1000, -1000), (((15,) * 8,) * 8,) * 8, ((7, 1000, -1000, 3, 3),) * 12, (63,) * 16,
)
WORDS = ("shift", "move", "shape", "rank", "turn", "pot")


def stand_with(path, part):
    return with_part_at(STAND, path, part)


# Of each sort of number that a stand holds, one path to such a number, and its bounds.
NUMBERS = (
    ((0, 0, 0), 0, 15), ((0, 1, 2), 0, 15), ((1, 0), -1000, 1000), ((1, 1), -1000, 1000),
    ((2, 0, 1, 0), 0, 15), ((2, 2, 0, 0), 0, 15),
    ((3, 0, 0), 0, 2), ((3, 2, 0), 0, 2), ((3, 0, 1), -1000, 1000), ((3, 0, 2), -1000, 1000),
    ((3, 1, 1), -1000, 1000), ((3, 2, 2), -1000, 1000), ((3, 0, 3), 0, 3), ((3, 2, 4), 0, 3), ((3, 1, 4), 0, 3),
    ((4, 0), 0, 63), ((4, 8), 0, 63), ((4, 15), 0, 63),
)


class IsStand(unittest.TestCase):
    def test_ordinary_stands(self):
        for stand in (STAND, LEAST, GREATEST):
            self.assertIs(is_stand(stand), True)
        rng = random.Random(81)
        for k in range(200):
            self.assertIs(is_stand(some_stand(rng, 12)), True)

    def test_each_bound_of_each_number_and_beyond_it(self):
        for path, low, high in NUMBERS:
            for part in (low, low + 1, high - 1, high):
                self.assertIs(is_stand(stand_with(path, part)), True, (path, part))
            for part in (low - 1, low - 2, high + 1, high + 2, -5000, 5000, -SIXTY, SIXTY):
                self.assertIs(is_stand(stand_with(path, part)), False, (path, part))

    def test_a_truth_is_no_number_wherever_it_stands(self):
        for path in paths(STAND):
            for truth in (True, False):
                self.assertIs(is_stand(stand_with(path, truth)), False, path)

    def test_none_stands_for_a_movers_shape_alone(self):
        for path in paths(STAND):
            is_shape_place = len(path) == 3 and path[0] == 3 and path[2] == 0
            self.assertIs(is_stand(stand_with(path, None)), is_shape_place, path)

    def test_a_list_in_a_tuples_place(self):
        for path in paths(STAND):
            part = part_at(STAND, path)
            if isinstance(part, tuple):
                self.assertIs(is_stand(stand_with(path, list(part))), False, path)

    def test_another_kind_in_any_place(self):
        for path in paths(STAND):
            for part in ("", "0", "off", [], [0], [[]], (None,), ("0",), (True,), ([],), ((((0,),),),)):
                self.assertIs(is_stand(stand_with(path, part)), False, (path, part))

    def test_a_tuple_in_a_numbers_place(self):
        for path in paths(STAND):
            if isinstance(part_at(STAND, path), int):
                for part in ((), (0,), (0, 0)):
                    self.assertIs(is_stand(stand_with(path, part)), False, (path, part))

    def test_a_number_in_a_tuples_place(self):
        for path in paths(STAND):
            if isinstance(part_at(STAND, path), tuple):
                for part in (0, 1, -1, SIXTY):
                    self.assertIs(is_stand(stand_with(path, part)), False, (path, part))

    def test_a_part_more_or_less_where_the_count_is_told(self):
        for path in ((), (1,), (3, 0), (3, 1), (3, 2), (4,), (0, 0), (0, 1), (2, 0, 0), (2, 0, 1)):
            part = part_at(STAND, path)
            for other in (part[:-1], part[1:], part + part[-1:], part[:1] + part, (), part + part):
                self.assertIs(is_stand(stand_with(path, other)), False, (path, other))

    def test_counts_of_the_floor(self):
        for high in (0, 1, 2, 15, 16, 17, 18, 40):
            for wide in (0, 1, 2, 15, 16, 17, 18, 40):
                told = is_stand(stand_with((0,), ((3,) * wide,) * high))
                self.assertIs(told, 1 <= high <= 16 and 1 <= wide <= 16, (high, wide))

    def test_a_floor_of_unlike_rows(self):
        for floor in (((1,), (1, 2)), ((1, 2), (1,)), ((1, 2), (1, 2), (1,)), ((1,), ()), ((), (1,))):
            self.assertIs(is_stand(stand_with((0,), floor)), False, floor)

    def test_counts_of_the_book(self):
        for many in range(12):
            stand = (FLOOR, (0, 0), (((1,),),) * many, (), POTS)
            self.assertIs(is_stand(stand), many <= 8, many)

    def test_counts_of_a_shape(self):
        for high in (0, 1, 8, 9, 16):
            for wide in (0, 1, 8, 9, 16):
                told = is_stand(stand_with((2, 1), ((3,) * wide,) * high))
                self.assertIs(told, 1 <= high <= 8 and 1 <= wide <= 8, (high, wide))

    def test_counts_of_movers(self):
        for many in range(16):
            self.assertIs(is_stand(stand_with((3,), MOVERS[:1] * many)), many <= 12, many)

    def test_counts_of_pots(self):
        for many in range(20):
            self.assertIs(is_stand(stand_with((4,), (5,) * many)), many == 16, many)

    def test_a_movers_shape_is_one_of_the_book(self):
        for many in range(9):
            for shape in (None, 0, 1, many - 1, many, many + 1, 7, 8, -1):
                stand = (FLOOR, (0, 0), (((1,),),) * many, ((shape, 0, 0, 0, 0),), POTS)
                self.assertIs(is_stand(stand), shape is None or 0 <= shape < many, (many, shape))

    def test_parts_in_another_order(self):
        for one in range(5):
            for other in range(one):
                parts = list(STAND)
                parts[one], parts[other] = parts[other], parts[one]
                self.assertIs(is_stand(tuple(parts)), False, (one, other))

    def test_things_of_other_kinds(self):
        for at, thing in enumerate(odd_things()):
            self.assertIs(is_stand(thing), False, at)

    def test_odd_things_in_any_place_never_make_an_error(self):
        for path in paths(STAND):
            for at, thing in enumerate(odd_things()):
                self.assertIn(is_stand(stand_with(path, thing)), (True, False), (path, at))

    def test_nothing_handed_in_is_changed(self):
        for thing in (list(STAND), stand_with((0,), [[1, 2], [3]]), stand_with((3,), [[0, 1, 2, 3, 3]])):
            before = copy.deepcopy(thing)
            is_stand(thing)
            self.assertEqual(thing, before)


# Of each sort of deed one, with the bounds of each of its numbers; shapes may be None too.
DEEDS = (
    (("shift", 4, -5), ((-1000, 1000), (-1000, 1000))),
    (("move", 1, 6, -7), ((0, 2), (-1000, 1000), (-1000, 1000))),
    (("shape", 0, 1), ((0, 2), (0, 2))),
    (("rank", 1, 2), ((0, 2), (0, 3))),
    (("turn", 0, 1), ((0, 2), (0, 3))),
    (("pot", 3, 7), ((0, 15), (0, 63))),
)


class IsDeed(unittest.TestCase):
    def test_each_word(self):
        for deed, bounds in DEEDS:
            self.assertIs(is_deed(STAND, deed), True, deed)

    def test_at_each_bound_and_beyond_it(self):
        for deed, bounds in DEEDS:
            for at, (low, high) in enumerate(bounds, start=1):
                for part in (low, low + 1, high - 1, high):
                    self.assertIs(is_deed(STAND, with_part_at(deed, (at,), part)), True, (deed, at, part))
                for part in (low - 1, low - 2, high + 1, high + 2, -5000, 5000, -SIXTY, SIXTY):
                    self.assertIs(is_deed(STAND, with_part_at(deed, (at,), part)), False, (deed, at, part))

    def test_another_kind_in_a_parts_place(self):
        for deed, bounds in DEEDS:
            for at in range(len(deed)):
                for part in (True, False, "", "0", "off", [], [0], (), (0,), ((),)):
                    self.assertIs(is_deed(STAND, with_part_at(deed, (at,), part)), False, (deed, at, part))

    def test_none_stands_for_a_shape_alone(self):
        for deed, bounds in DEEDS:
            for at in range(len(deed)):
                told = is_deed(STAND, with_part_at(deed, (at,), None))
                self.assertIs(told, deed[0] == "shape" and at == 2, (deed, at))

    def test_a_part_more_or_less(self):
        for deed, bounds in DEEDS:
            for part in (0, 1, None, "", True, ()):
                self.assertIs(is_deed(STAND, deed + (part,)), False, (deed, part))
                self.assertIs(is_deed(STAND, deed + (part, part)), False, (deed, part))
            for many in range(len(deed)):
                self.assertIs(is_deed(STAND, deed[:many]), False, (deed, many))
            self.assertIs(is_deed(STAND, deed[1:]), False, deed)

    def test_a_list_is_no_deed(self):
        for deed, bounds in DEEDS:
            self.assertIs(is_deed(STAND, list(deed)), False, deed)

    def test_another_word(self):
        for deed, bounds in DEEDS:
            word = deed[0]
            likened = (word + " ", " " + word, word.upper(), word.title(), word[:-1], word + "s")
            for other in likened + ("", " ", "off", "floor"):
                self.assertIs(is_deed(STAND, (other,) + deed[1:]), False, (deed, other))

    def test_a_word_is_no_place_for_another_ones_parts(self):
        self.assertIs(is_deed(STAND, ("move", 0, 1)), False)
        self.assertIs(is_deed(STAND, ("rank", 0, 1, 2)), False)
        self.assertIs(is_deed(STAND, ("shift", 0, 1, 2)), False)
        self.assertIs(is_deed(STAND, ("turn", 0, 63)), False)
        self.assertIs(is_deed(STAND, ("pot", 0, 64)), False)
        self.assertIs(is_deed(STAND, ("pot", 15, 63)), True)
        self.assertIs(is_deed(STAND, ("shift", 1000, -1000)), True)

    def test_a_stand_without_movers_and_shapes(self):
        for deed, bounds in DEEDS:
            self.assertIs(is_deed(LEAST, deed), deed[0] in ("shift", "pot"), deed)
        stand = (((0,),), (0, 0), (), ((None, 0, 0, 0, 0),), POTS)
        self.assertIs(is_deed(stand, ("shape", 0, None)), True)
        self.assertIs(is_deed(stand, ("shape", 0, 0)), False)
        self.assertIs(is_deed(stand, ("move", 0, 1, 1)), True)
        self.assertIs(is_deed(stand, ("move", 1, 1, 1)), False)

    def test_the_greatest_stand(self):
        for i in (0, 11, 12):
            for deed in (("move", i, 0, 0), ("shape", i, 7), ("shape", i, None), ("rank", i, 0), ("turn", i, 0)):
                self.assertIs(is_deed(GREATEST, deed), i < 12, deed)
        self.assertIs(is_deed(GREATEST, ("shape", 0, 8)), False)

    def test_things_of_other_kinds(self):
        for at, thing in enumerate(odd_things()):
            self.assertIs(is_deed(STAND, thing), False, at)
            for word in WORDS:
                self.assertIs(is_deed(STAND, (word, thing)), False, (word, at))
                self.assertIn(is_deed(STAND, (word, 0, thing)), (True, False), (word, at))
                self.assertIs(is_deed(STAND, (thing, 0, 0)), False, at)

    def test_nothing_handed_in_is_changed(self):
        for thing in (["pot", 1, 2], ("pot", [1], 2), [["move"], 0, 1, 2]):
            before = copy.deepcopy(thing)
            is_deed(STAND, thing)
            self.assertEqual(thing, before)


class StandBehind(unittest.TestCase):
    def test_each_word(self):
        self.assertEqual(stand_behind(STAND, ("shift", 4, -5)), (FLOOR, (4, -5), BOOK, MOVERS, POTS))
        one, two, three = MOVERS
        for deed, movers in (
            (("move", 0, 6, -7), ((0, 6, -7, 1, 2), two, three)),
            (("move", 1, 0, 1), (one, (None, 0, 1, 0, 0), three)),
            (("shape", 0, 1), ((1, 3, -4, 1, 2), two, three)),
            (("shape", 1, 2), (one, (2, -1000, 1000, 0, 0), three)),
            (("shape", 2, None), (one, two, (None, 5, 6, 3, 3))),
            (("rank", 2, 0), (one, two, (2, 5, 6, 0, 3))),
            (("turn", 0, 3), ((0, 3, -4, 1, 3), two, three)),
        ):
            self.assertEqual(stand_behind(STAND, deed), (FLOOR, (-7, 9), BOOK, movers, POTS), deed)
        for ink in range(16):
            pots = POTS[:ink] + (7,) + POTS[ink + 1:]
            self.assertEqual(stand_behind(STAND, ("pot", ink, 7)), (FLOOR, (-7, 9), BOOK, MOVERS, pots), ink)

    def test_deeds_without_effect(self):
        for deed in (
            ("shift", -7, 9), ("move", 0, 3, -4), ("shape", 1, None), ("rank", 2, 3), ("turn", 2, 3), ("pot", 0, 48),
        ):
            self.assertEqual(stand_behind(STAND, deed), STAND, deed)

    def test_many_deeds_of_many_stands(self):
        rng = random.Random(91)
        for k in range(100):
            stand = some_stand(rng, 12)
            for step in range(20):
                deed = some_deed(rng, stand)
                behind = stand_behind(stand, deed)
                self.assertEqual(behind, plain_behind(stand, deed), deed)
                self.assertIs(is_stand(behind), True)
                stand = behind

    def test_the_stand_handed_in_stays(self):
        before = copy.deepcopy(STAND)
        for deed, bounds in DEEDS:
            stand_behind(STAND, deed)
            self.assertEqual(STAND, before, deed)

    def test_what_is_no_deed_is_refused(self):
        wrong = odd_things()
        for deed, bounds in DEEDS:
            wrong += [list(deed), deed + (0,), deed[:-1], deed[1:], (deed[0] + "s",) + deed[1:]]
            for at, (low, high) in enumerate(bounds, start=1):
                parts = (low - 1, high + 1, True, "0", (0,), [0], -SIXTY, SIXTY)
                wrong += [with_part_at(deed, (at,), part) for part in parts]
        before = copy.deepcopy(STAND)
        for at, thing in enumerate(wrong):
            with self.assertRaises(NoDeed, msg=at):
                stand_behind(STAND, thing)
        self.assertEqual(STAND, before)


if __name__ == "__main__":
    unittest.main()
