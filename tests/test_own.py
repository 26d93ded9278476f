"""Point 2 over the whole program: told lists are the asker's own, and what is handed in stays and is not kept."""

import copy
import unittest

from glowrow.beam import Beam
from glowrow.desk import Desk
from glowrow.errors import GlowError
from glowrow.films import film_at, is_film, meeting, round_of
from glowrow.laying import laid, slips
from glowrow.packing import packed, unpacked
from glowrow.reel import Reel
from glowrow.rows import ink_at, kept_on, lost_on, taken
from glowrow.scores import deeds_by, is_score, played, score_for
from glowrow.slots import cast_for, slots_for
from glowrow.stands import is_deed, is_stand, stand_behind
from glowrow.tables import table_for, timed_table, windows
from glowrow.texts import picture_text, plan_text, read_picture, read_plan
from glowrow.whole import picture_of
from glowrow.wished import lone_pot, wishes_of

POTS = tuple(range(20, 36))
STAND = (
    ((1, 0, 2), (0, 3, 0)), (0, 0), (((4, 5), (6, 0)), ((7,),)),
    ((0, 1, 0, 1, 0), (1, 2, 0, 0, 0), (1, 2, 0, 3, 0)), POTS,
)
FRAME = (4, 2, 1, 2)
FILM = (FRAME, STAND, (((0, 5, 1, 2), (-4, 8, 0, -3)), None, None))
TIMED = [(1, ("pot", 5, 50)), (5, ("shift", 0, 1)), (6, ("pot", 0, 2))]
SCORE = [("wait", 0, 3), ("do", ("pot", 0, 9)), ("skip", 1, 2), ("to", 0), ("do", ("move", 1, 6, -7))]
PICTURE = [[21, 24, 25, 21], [20, 26, 20, 20]]
BARRED = [[21, 24, 25, 5], [20, 26, 20, 20]]
WISHES = [(0, 1, 5), (1, 1, 6), (1, 0, 7), (0, 1, 5)]
THINGS = [(0, 3), (2, 5), (4, 9)]
CAST = [(0, 0, 0, 1, 0), (0, 2, 1, 1, 0), (1, 2, -9, 1, 0)]
TEXT = plan_text(FRAME, STAND, TIMED)

# Every function that is handed a list or tells one, with what it is handed.
ASKED = (
    (kept_on, FRAME, STAND, 0), (lost_on, FRAME, STAND, 0), (taken, FRAME, STAND, 0), (laid, FRAME, STAND, TIMED),
    (ink_at, taken(FRAME, STAND, 0), 1), (slips, FRAME, STAND, TIMED), (windows, POTS, WISHES),
    (table_for, 2, 2, POTS, WISHES), (table_for, 2, 1, POTS, WISHES), (timed_table, FRAME, WISHES[:3]),
    (slots_for, THINGS, 2, 0), (slots_for, THINGS, 1, 0), (slots_for, THINGS, 3, 40),
    (cast_for, FRAME, STAND[2], CAST, 1, 0), (cast_for, FRAME, STAND[2], CAST, 2, 0),
    (cast_for, FRAME, STAND[2], CAST, 0, 0), (picture_text, PICTURE), (read_picture, "12\n34"),
    (plan_text, FRAME, STAND, TIMED), (read_plan, TEXT), (picture_of, TEXT), (is_score, STAND, SCORE),
    (deeds_by, FRAME, STAND, SCORE, 1), (played, FRAME, STAND, SCORE, 1), (score_for, FRAME, TIMED, 1),
    (score_for, FRAME, TIMED, 3), (film_at, FILM, 5), (round_of, FILM), (meeting, FILM, 0, 1),
    (wishes_of, FRAME, STAND, PICTURE), (wishes_of, FRAME, STAND, BARRED), (lone_pot, FRAME, STAND, PICTURE),
    (lone_pot, FRAME, STAND, BARRED), (packed, PICTURE), (unpacked, "42!8lo1lnq-n"), (unpacked, "22*21^2"),
    (is_stand, [STAND]), (is_deed, STAND, ["pot", 0, 0]), (is_film, [FILM]), (stand_behind, STAND, ("pot", 0, 0)),
)
# What is refused, with lists in it.
REFUSED = (
    (laid, FRAME, [STAND], TIMED), (laid, FRAME, STAND, [(11, ("pot", 0, 0))]), (laid, FRAME, STAND, [(0, ["pot"])]),
    (slips, [FRAME], STAND, TIMED), (windows, POTS, [(0, 1, 5), (0, 1, 6)]),
    (table_for, 2, 16, POTS, [(1, 0, 2), (0, 1, 5), (0, 1, 6)]), (read_picture, ["12"]), (read_plan, [TEXT]),
    (picture_of, [TEXT]), (deeds_by, FRAME, STAND, SCORE + [("to", 9)], 1), (played, FRAME, STAND, [SCORE], 1),
    (unpacked, ["11!10"]), (Beam, [FRAME], STAND), (Beam, FRAME, list(STAND)), (Reel, list(FILM)),
    (stand_behind, STAND, ["pot", 0, 0]),
)


def spoil(thing, way):
    """Empties each list within a thing, or gives it a thing more, or exchanges its first thing."""
    if isinstance(thing, (list, tuple)):
        for part in thing:
            spoil(part, way)
    if isinstance(thing, list):
        if way == "empty":
            thing.clear()
        elif way == "more":
            thing.append(99)
        elif thing:
            thing[0] = None


def lists_in(thing):
    """All lists within a thing, itself among them."""
    told = [thing] if isinstance(thing, list) else []
    if isinstance(thing, (list, tuple)):
        for part in thing:
            told += lists_in(part)
    return told


def as_told(thing):
    """What a function told, a beam by all that it tells."""
    if isinstance(thing, Beam):
        return [thing.picture(), thing.touches(), thing.grounds(), thing.lost(), thing.stand(), thing.tick()]
    return thing


WAYS = ("empty", "more", "other")


class Functions(unittest.TestCase):
    def test_told_lists_are_told_again_alike(self):
        for ask, *handed in ASKED:
            before = copy.deepcopy(as_told(ask(*handed)))
            for way in WAYS:
                told = ask(*handed)
                for k in range(2):
                    spoil(as_told(told), way)
                if isinstance(told, Beam):
                    self.assertEqual(as_told(told), before, (ask, way))
                self.assertEqual(as_told(ask(*handed)), before, (ask, way))

    def test_no_two_told_lists_are_one(self):
        for ask, *handed in ASKED:
            lists = lists_in(as_told(ask(*handed))) + lists_in(as_told(ask(*handed))) + lists_in(handed)
            self.assertEqual(len(lists), len({id(part) for part in lists}), ask)

    def test_what_is_handed_in_stays(self):
        for ask, *handed in ASKED:
            before = copy.deepcopy(handed)
            ask(*handed)
            self.assertEqual(handed, before, ask)

    def test_what_is_refused_changes_nothing_that_is_handed_in(self):
        for ask, *handed in REFUSED:
            before = copy.deepcopy(handed)
            with self.assertRaises(GlowError):
                ask(*handed)
            self.assertEqual(handed, before, ask)

    def test_what_is_handed_in_is_not_kept(self):
        for ask, *handed in ASKED:
            before = copy.deepcopy(as_told(ask(*handed)))
            for way in WAYS:
                given = copy.deepcopy(handed)
                told = ask(*given)
                spoil(given, way)
                self.assertEqual(as_told(told), before, (ask, way))
                self.assertEqual(as_told(ask(*handed)), before, (ask, way))


class Objects(unittest.TestCase):
    def test_a_beam_amid_its_way(self):
        beam, other = Beam(FRAME, STAND), Beam(FRAME, STAND)
        for tick in range(10):
            for way in WAYS:
                spoil(as_told(beam), way)
            self.assertEqual(as_told(beam), as_told(other), tick)
            kept, before = as_told(beam), copy.deepcopy(as_told(beam))
            beam.deed(("pot", 0, tick))
            beam.go(1)
            self.assertEqual(kept, before)
            other.deed(("pot", 0, tick))
            other.go(1)
        self.assertEqual(as_told(beam), as_told(other))

    def test_a_refused_deed_is_not_kept_in_a_beam_or_a_reel(self):
        for thing in (Beam(FRAME, STAND), Reel(FILM)):
            deed = ["pot", 0, 0]
            with self.assertRaises(GlowError):
                thing.deed(deed)
            self.assertEqual(deed, ["pot", 0, 0])
            self.assertEqual(thing.picture(), [] if isinstance(thing, Beam) else laid(FRAME, STAND, []).picture())

    def test_a_reel(self):
        reel = Reel(FILM)
        for step in range(5):
            kept, before = reel.picture(), copy.deepcopy(reel.picture())
            film = reel.film()
            for way in WAYS:
                spoil(reel.picture(), way)
            self.assertEqual(reel.picture(), before)
            reel.go(1)
            self.assertEqual(kept, before)
            reel.back()
            self.assertEqual((reel.film(), reel.picture()), (film, before))
            reel.deed(("pot", 0, step))
            reel.go(1)

    def test_a_desk(self):
        desk = Desk()
        for row in ("frame 4 2 1 2", "floor 102/030", "pots klmnopqrstuvwxyz", "at 5 pot 0 63", "at 2 pot 2 1"):
            desk.say(row)
        looks = ("plan", "lay", "pack", "touches", "grounds", "lost", "slips")
        before = [desk.say(row) for row in looks]
        self.assertEqual([desk.say(row) for row in looks], before)
        handed = ["plan"]
        with self.assertRaises(GlowError):
            desk.say(handed)
        self.assertEqual(handed, ["plan"])
        desk.say("drop 0")
        desk.say("back")
        self.assertEqual([desk.say(row) for row in looks], before)


if __name__ == "__main__":
    unittest.main()
