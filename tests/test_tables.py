"""Points 17 to 21: wishes, windows, tables or crowds, and tables as timed deeds."""

import copy
import itertools
import random
import unittest

from glowrow.errors import Clash
from glowrow.frames import begin_of
from glowrow.laying import laid
from glowrow.tables import table_for, timed_table, windows

POTS = tuple(range(16))
CLASHES = (
    [(0, 1, 5), (0, 1, 6)], [(3, 15, 0), (3, 15, 63)], [(0, 1, 5), (1, 1, 5), (2, 3, 4), (1, 1, 6)],
    [(0, 1, 1), (0, 1, 2)], [(0, 1, 2), (0, 1, 1)], [(5, 0, 9), (5, 0, 9), (5, 0, 8)],
)


def pots_by_rows(high, pots, table):
    """The pots of each row, the table's changes done ahead of their rows."""
    told, now = [], list(pots)
    for row in range(high):
        for at, ink, hue in table:
            if at == row:
                now[ink] = hue
        told.append(tuple(now))
    return told


def makes(high, pots, wishes, table):
    told = pots_by_rows(high, pots, table)
    return all(told[row][ink] == hue for row, ink, hue in wishes)


def plain_windows(pots, wishes):
    """Point 19, asked of each wish by itself."""
    told = set()
    for row, ink, hue in wishes:
        ahead = [(other, its_hue) for other, its_ink, its_hue in wishes if its_ink == ink and other < row]
        first, now = (max(ahead)[0] + 1, max(ahead)[1]) if ahead else (0, pots[ink])
        if hue != now:
            told.add((first, row, ink, hue))
    return sorted(told)


def some_wishes(rng, high, many, inks, hues):
    """Wishes of which no two clash, some of them told twice."""
    made = {}
    for k in range(many):
        made.setdefault((rng.randrange(high), rng.choice(inks)), rng.choice(hues))
    wishes = [(row, ink, hue) for (row, ink), hue in made.items()]
    wishes += [rng.choice(wishes) for k in range(rng.choice((0, 0, 3))) if wishes]
    rng.shuffle(wishes)
    return wishes


class Windows(unittest.TestCase):
    def test_none(self):
        self.assertEqual(windows(POTS, []), [])
        self.assertEqual(windows(POTS, [(0, 3, 3), (4, 3, 3), (39, 15, 15)]), [])

    def test_from_the_top_where_there_is_no_wish_ahead(self):
        self.assertEqual(windows(POTS, [(0, 3, 9)]), [(0, 0, 3, 9)])
        self.assertEqual(windows(POTS, [(7, 3, 9)]), [(0, 7, 3, 9)])

    def test_from_behind_the_wish_ahead(self):
        self.assertEqual(windows(POTS, [(2, 3, 9), (6, 3, 8)]), [(0, 2, 3, 9), (3, 6, 3, 8)])
        self.assertEqual(windows(POTS, [(2, 3, 9), (3, 3, 8)]), [(0, 2, 3, 9), (3, 3, 3, 8)])

    def test_a_wish_alike_moves_the_next_windows_begin(self):
        self.assertEqual(windows(POTS, [(2, 3, 3), (6, 3, 8)]), [(3, 6, 3, 8)])
        self.assertEqual(windows(POTS, [(2, 3, 9), (4, 3, 9), (6, 3, 8)]), [(0, 2, 3, 9), (5, 6, 3, 8)])

    def test_back_to_the_hue_at_first(self):
        self.assertEqual(windows(POTS, [(0, 3, 3), (1, 3, 4), (5, 3, 3)]), [(1, 1, 3, 4), (2, 5, 3, 3)])

    def test_in_whatever_order_they_are_wished(self):
        wishes = [(6, 3, 8), (2, 3, 9), (6, 1, 4), (0, 2, 2), (4, 2, 7)]
        told = [(0, 2, 3, 9), (0, 6, 1, 4), (1, 4, 2, 7), (3, 6, 3, 8)]
        for order in itertools.permutations(wishes):
            self.assertEqual(windows(POTS, list(order)), told, order)

    def test_two_alike_are_one(self):
        self.assertEqual(windows(POTS, [(2, 3, 9), (2, 3, 9), (2, 3, 9)]), [(0, 2, 3, 9)])

    def test_sorted_as_tuples(self):
        wishes = [(5, 0, 9), (5, 1, 8), (2, 2, 7), (5, 3, 6)]
        self.assertEqual(windows((0,) * 16, wishes), [(0, 2, 2, 7), (0, 5, 0, 9), (0, 5, 1, 8), (0, 5, 3, 6)])

    def test_clash(self):
        for wishes in CLASHES:
            before = copy.deepcopy(wishes)
            with self.assertRaises(Clash, msg=wishes):
                windows(POTS, wishes)
            self.assertEqual(wishes, before)

    def test_no_clash_for_unlike_inks_or_rows(self):
        self.assertEqual(windows((0,) * 16, [(0, 1, 5), (0, 2, 6)]), [(0, 0, 1, 5), (0, 0, 2, 6)])
        self.assertEqual(windows((0,) * 16, [(0, 1, 5), (1, 1, 6)]), [(0, 0, 1, 5), (1, 1, 1, 6)])

    def test_many(self):
        rng = random.Random(191)
        for k in range(300):
            high = rng.choice((1, 3, 10, 40))
            inks, hues = range(rng.choice((1, 4, 16))), range(rng.choice((2, 64)))
            wishes = some_wishes(rng, high, rng.choice((1, 5, 30, 200)), inks, hues)
            pots = tuple(rng.randrange(4) for ink in range(16))
            self.assertEqual(windows(pots, wishes), plain_windows(pots, wishes), wishes)

    def test_told_lists_are_the_askers_own_and_what_is_handed_in_stays(self):
        wishes = [(6, 3, 8), (2, 3, 9), (2, 3, 9)]
        told = windows(POTS, wishes)
        self.assertIs(type(told), list)
        self.assertTrue(all(type(window) is tuple for window in told))
        told.clear()
        self.assertEqual(windows(POTS, wishes), [(0, 2, 3, 9), (3, 6, 3, 8)])
        self.assertEqual(wishes, [(6, 3, 8), (2, 3, 9), (2, 3, 9)])


class TableFor(unittest.TestCase):
    def look(self, high, room, pots, wishes):
        """Looks at what is told, and tells whether it is a table."""
        told, needed = table_for(high, room, pots, wishes), plain_windows(pots, wishes)
        self.assertIs(type(told), tuple)
        if told[0] == "table":
            word, table = told
            self.look_at_table(high, room, table)
            self.assertTrue(makes(high, pots, wishes, table), (wishes, table))
            # Every table has a change within each window, and no two windows of one ink have a row in common.
            self.assertEqual(len(table), len(needed), (wishes, table))
            return True
        word, first, last, many = told
        self.assertEqual(word, "crowd")
        self.assertTrue(0 <= first <= last < high, told)
        self.assertEqual(many, len([window for window in needed if first <= window[0] and window[1] <= last]), told)
        self.assertGreater(many, room * (last - first + 1), told)
        return False

    def look_at_table(self, high, room, table):
        self.assertIs(type(table), list)
        rows = [row for row, ink, hue in table]
        self.assertEqual(rows, sorted(rows))
        self.assertTrue(all(0 <= row < high for row in rows), table)
        self.assertTrue(all(rows.count(row) <= room for row in rows), table)
        self.assertTrue(all(type(triple) is tuple for triple in table))

    def test_no_wishes_and_wishes_that_hold_at_first(self):
        for room in (0, 1, 16):
            self.assertEqual(table_for(5, room, POTS, []), ("table", []))
            self.assertEqual(table_for(5, room, POTS, [(0, 3, 3), (4, 3, 3)]), ("table", []))

    def test_no_room(self):
        self.assertEqual(table_for(1, 0, POTS, [(0, 3, 9)]), ("crowd", 0, 0, 1))
        for high in (2, 5, 40):
            self.assertFalse(self.look(high, 0, POTS, [(1, 3, 9)]))

    def test_the_one_table_that_there_is(self):
        self.assertEqual(table_for(1, 1, POTS, [(0, 3, 9)]), ("table", [(0, 3, 9)]))
        wishes = [(0, 3, 9), (1, 4, 8), (2, 5, 7)]
        self.assertEqual(table_for(3, 1, POTS, wishes), ("table", wishes))

    def test_who_ends_first_goes_first(self):
        # Were the pot 1 changed ahead of row 0, nothing would be left for pot 2.
        told = table_for(3, 1, POTS, [(2, 1, 9), (0, 2, 9), (1, 3, 9)])
        self.assertEqual(told, ("table", [(0, 2, 9), (1, 3, 9), (2, 1, 9)]))

    def test_one_row_with_too_many(self):
        wishes = [(0, ink, 60) for ink in range(5)]
        for room in range(8):
            self.assertIs(self.look(4, room, POTS, wishes), room >= 5, room)

    def test_a_crowd_amid_the_rows(self):
        wishes = [(3, ink, ink) for ink in range(6)] + [(5, ink, 60) for ink in range(6)]
        for room in range(6):
            self.assertIs(self.look(40, room, POTS, wishes), room >= 3, room)
        self.assertEqual(table_for(40, 2, POTS, wishes), ("crowd", 4, 5, 6))

    def test_a_window_that_begins_ahead_of_a_crowd_is_not_counted(self):
        wishes = [(2, 0, 60), (1, 1, 1), (2, 1, 60), (1, 2, 2), (2, 2, 60)]
        self.assertEqual(table_for(3, 1, POTS, wishes), ("crowd", 2, 2, 2))
        self.assertTrue(self.look(3, 2, POTS, wishes))

    def test_a_window_that_ends_behind_a_crowd_is_not_counted(self):
        wishes = [(2, 0, 60), (0, 1, 60), (0, 2, 60)]
        self.assertEqual(table_for(3, 1, POTS, wishes), ("crowd", 0, 0, 2))
        self.assertTrue(self.look(3, 2, POTS, wishes))

    def test_just_enough_room_in_all(self):
        wishes = [(39, ink, 60) for ink in range(16)]
        self.assertTrue(self.look(40, 1, POTS, wishes))
        wishes = [(row, ink, 16 + row) for row in range(40) for ink in range(5)]
        self.assertTrue(self.look(40, 5, POTS, wishes))
        self.assertFalse(self.look(40, 4, POTS, wishes))

    def test_more_than_two_hundred_wishes(self):
        wishes = [(row, ink, (row + ink) % 64) for row in range(40) for ink in range(16)]
        self.assertTrue(self.look(40, 16, POTS, wishes))
        self.assertFalse(self.look(40, 15, POTS, wishes))

    def test_clash(self):
        for wishes in CLASHES:
            for room in (0, 1, 16):
                with self.assertRaises(Clash, msg=wishes):
                    table_for(6, room, POTS, wishes)

    def test_clash_goes_ahead_of_a_crowd(self):
        with self.assertRaises(Clash):
            table_for(6, 0, POTS, [(0, 1, 9), (0, 2, 9), (5, 3, 1), (5, 3, 2)])

    def test_many(self):
        rng = random.Random(201)
        tables = 0
        for k in range(600):
            high, room = rng.choice((1, 3, 8, 40)), rng.choice((0, 1, 1, 2, 3, 16))
            inks, hues = range(rng.choice((1, 4, 16))), range(rng.choice((2, 5, 64)))
            wishes = some_wishes(rng, high, rng.choice((1, 4, 12, 60, 200)), inks, hues)
            tables += self.look(high, room, tuple(rng.randrange(4) for ink in range(16)), wishes)
        self.assertTrue(100 < tables < 500, tables)

    def test_many_with_windows_that_begin_late(self):
        # Each pot shall have its first hue until some row, and so its windows begin behind that.
        rng = random.Random(203)
        tables = 0
        for k in range(600):
            high, room = rng.choice((4, 8, 16)), rng.choice((1, 1, 2, 3))
            wishes = []
            for ink in range(rng.choice((4, 8, 16))):
                held = rng.randrange(high - 1)
                wishes += [(held, ink, ink), (rng.randint(held + 1, min(held + 3, high - 1)), ink, 60)]
            tables += self.look(high, room, POTS, wishes)
        self.assertTrue(50 < tables < 550, tables)

    def test_all_tables_of_small_wishes(self):
        # Every table with at most room changes ahead of a row is tried: none with fewer makes the wishes.
        rng = random.Random(202)
        changes = [(ink, hue) for ink in (0, 1) for hue in (0, 1, 2)]
        for k in range(60):
            room = rng.choice((0, 1, 1, 2))
            wishes = some_wishes(rng, 3, rng.randint(1, 5), (0, 1), (0, 1, 2))
            rows = [chosen for many in range(room + 1) for chosen in itertools.combinations(changes, many)]
            counts = []
            for picked in itertools.product(rows, repeat=3):
                table = [(row, ink, hue) for row, chosen in enumerate(picked) for ink, hue in chosen]
                if makes(3, (0,) * 16, wishes, table):
                    counts.append(len(table))
            told = table_for(3, room, (0,) * 16, wishes)
            self.assertEqual(told[0], "table" if counts else "crowd", (room, wishes))
            if counts:
                self.assertEqual(len(told[1]), min(counts), (room, wishes))

    def test_told_lists_are_the_askers_own_and_what_is_handed_in_stays(self):
        wishes = [(2, 1, 9), (0, 2, 9), (1, 3, 9)]
        table_for(3, 1, POTS, wishes)[1].clear()
        self.assertEqual(table_for(3, 1, POTS, wishes), ("table", [(0, 2, 9), (1, 3, 9), (2, 1, 9)]))
        self.assertEqual(wishes, [(2, 1, 9), (0, 2, 9), (1, 3, 9)])


class TimedTable(unittest.TestCase):
    def test_known(self):
        self.assertEqual(timed_table((4, 3, 2, 0), []), [])
        table = [(0, 3, 9), (0, 2, 8), (2, 15, 63), (2, 0, 0)]
        self.assertEqual(timed_table((4, 3, 2, 0), table), [
            (0, ("pot", 3, 9)), (0, ("pot", 2, 8)), (12, ("pot", 15, 63)), (12, ("pot", 0, 0)),
        ])
        self.assertEqual(timed_table((5, 3, 0, 0), [(1, 4, 5)]), [(5, ("pot", 4, 5))])

    def test_the_last_row(self):
        self.assertEqual(timed_table((40, 40, 20, 12), [(39, 1, 2)]), [(2340, ("pot", 1, 2))])

    def test_the_askers_own(self):
        table = [(0, 3, 9), (2, 15, 63)]
        told = timed_table((4, 3, 2, 0), table)
        self.assertIs(type(told), list)
        told.clear()
        self.assertEqual(len(timed_table((4, 3, 2, 0), table)), 2)
        self.assertEqual(table, [(0, 3, 9), (2, 15, 63)])

    def test_the_picture_laid_with_it(self):
        # The floor has all inks on each row, so each pot shows at the spot of its ink's number.
        rng = random.Random(211)
        for k in range(60):
            frame = (16, rng.choice((1, 4, 12)), rng.choice((0, 3)), 0)
            pots = tuple(rng.randrange(64) for ink in range(16))
            wishes = some_wishes(rng, frame[1], rng.choice((2, 10, 40)), range(16), range(64))
            word, table = table_for(frame[1], 16, pots, wishes)
            self.assertEqual(word, "table")
            timed = timed_table(frame, table)
            self.assertEqual([tick for tick, deed in timed], [begin_of(frame, row) for row, ink, hue in table])
            picture = laid(frame, ((tuple(range(16)),), (0, 0), (), (), pots), timed).picture()
            for row, ink, hue in wishes:
                self.assertEqual(picture[row][ink], hue)
            self.assertEqual([tuple(row) for row in picture], pots_by_rows(frame[1], pots, table))


if __name__ == "__main__":
    unittest.main()
