"""Points 26, 27 and 28: scores, a hand that goes along them, what they lay, and timed deeds scored."""

import copy
import random
import unittest

from anything import SIXTY, odd_things
from glowrow.beam import Beam
from glowrow.errors import NoFrame, NoScore, NoStand
from glowrow.scores import deeds_by, is_score, played, score_for
from parts import part_at, paths, with_part_at
from plain import plain_laid
from worlds import no_deed, some_deed, some_frame, some_score, some_stand, some_timed

POTS = tuple(range(20, 36))
STAND = (((1, 0, 2), (0, 3, 0)), (0, 0), (((4, 5), (6, 0)), ((7,),)), ((0, 1, 0, 1, 0), (1, 2, 0, 0, 0)), POTS)
BARE = (((0,),), (0, 0), (), (), POTS)
FRAME = (4, 2, 1, 2)
TICKS = 10
DEEDS = (
    ("shift", 4, -5), ("move", 1, 6, -7), ("shape", 0, 1), ("shape", 1, None), ("rank", 1, 2), ("turn", 0, 1),
    ("pot", 15, 63),
)
SCORE = [("wait", 0, 3), ("do", ("pot", 0, 9)), ("skip", 1, 2), ("to", 0), ("do", ("move", 1, 6, -7))]
A, B, C = ("pot", 0, 1), ("pot", 0, 2), ("pot", 0, 3)


class IsScore(unittest.TestCase):
    def good(self, thing, stand=STAND):
        self.assertIs(is_score(stand, thing), True, repr(thing)[:200])

    def bad(self, thing, stand=STAND):
        self.assertIs(is_score(stand, thing), False, repr(thing)[:200])

    def test_ordinary_scores(self):
        for score in ([], SCORE, [("to", 0)], [("wait", 0, 0)], [("skip", 0, 0)], [("do", A)]):
            self.good(score)
        rng = random.Random(261)
        for k in range(200):
            frame, stand = some_frame(rng), some_stand(rng)
            self.good(some_score(rng, frame, stand, rng.randint(1, 100)), stand)

    def test_waits_and_skips_at_each_bound_and_beyond(self):
        for word in ("wait", "skip"):
            for number in (0, 1, 30, 59, 60):
                self.good([(word, number, 0)])
                self.good([(word, 60, number)])
            for number in (-1, -2, 61, 62, 1000, -SIXTY, SIXTY, True, False, None, "0", "", (), (0,), [], [0]):
                self.bad([(word, number, 0)])
                self.bad([(word, 0, number)])

    def test_deeds(self):
        for deed in DEEDS:
            self.good([("do", deed)])
            self.bad([("do", list(deed))])
            self.bad([("do",) + deed])
            self.bad([deed])
        rng = random.Random(262)
        for k in range(300):
            stand = some_stand(rng)
            self.good([("do", some_deed(rng, stand))], stand)
            self.bad([("do", no_deed(rng, stand))], stand)

    def test_deeds_are_those_of_the_stand(self):
        for deed in (("move", 0, 1, 1), ("shape", 0, None), ("rank", 0, 0), ("turn", 0, 0)):
            self.good([("do", deed)])
            self.bad([("do", deed)], BARE)
        self.bad([("do", ("move", 2, 1, 1))])
        self.bad([("do", ("shape", 0, 2))])
        self.good([("do", ("shift", 0, 0)), ("do", ("pot", 0, 0))], BARE)

    def test_leaps_at_each_bound_and_beyond(self):
        for many in (1, 2, 5, 100):
            rest = [("wait", 0, 0)] * (many - 1)
            for line in (0, many - 1):
                self.good(rest + [("to", line)])
                self.good([("to", line)] + rest)
            for line in (-1, -2, many, many + 1, 1000, SIXTY, -SIXTY, True, False, None, "0", (0,), [0]):
                self.bad(rest + [("to", line)])
                self.bad([("to", line)] + rest)

    def test_counts_of_lines(self):
        for line in (("wait", 0, 0), ("skip", 60, 60), ("do", A), ("to", 0), ("to", 99)):
            self.good([line] * 100)
            for many in (101, 102, 150, 1000):
                self.bad([line] * many)
        self.bad([("to", 100)] * 101)
        self.good([])

    def test_words(self):
        for word in ("", "Wait", "wait ", "waits", "rest", "shift", "pot", "to", "do", None, 0, True, ("wait",), ["wait"]):
            self.bad([(word, 1, 1)])
        for word in ("", "DO", "doo", "wait", "skip", "to", None, 1, False, ("do",), ["do"]):
            self.bad([(word, A)])
        for word in ("", "To", "too", "go", "wait", "skip", "do", None, 0, True, ["to"]):
            self.bad([(word, 0)])

    def test_parts_too_many_or_too_few(self):
        for line in SCORE + [("skip", 0, 0)]:
            for at in range(len(line) + 1):
                for part in (0, 1, None, A, line[0]):
                    self.bad([line[:at] + (part,) + line[at:]] + SCORE)
                if at < len(line):
                    self.bad([line[:at] + line[at + 1:]] + SCORE)

    def test_another_kind_at_any_place_and_depth(self):
        lines = tuple(SCORE)
        for path in paths(lines):
            if not path:
                continue
            for part in (True, False, None, "", "0", [], [0], [[]], (), (None,), ("0",), ((((0,),),),), SIXTY, -SIXTY):
                self.bad(list(with_part_at(lines, path, part)))

    def test_a_list_in_a_tuples_place(self):
        lines = tuple(SCORE)
        for path in paths(lines):
            part = part_at(lines, path)
            if path and isinstance(part, tuple):
                self.bad(list(with_part_at(lines, path, list(part))))

    def test_a_tuple_of_lines(self):
        for score in ([], SCORE, [("to", 0)]):
            self.good(score)
            self.bad(tuple(score))
            self.bad([score])
            self.bad((score,))

    def test_odd_things(self):
        for at, thing in enumerate(odd_things()):
            self.assertIs(is_score(STAND, thing), thing == [] and isinstance(thing, list), at)
            self.assertIs(is_score(STAND, [thing]), False, at)
            self.assertIs(is_score(STAND, [("do", thing)]), False, at)
            self.assertIs(is_score(STAND, SCORE + [thing]), False, at)

    def test_what_is_handed_in_stays(self):
        score = list(SCORE)
        is_score(STAND, score)
        self.assertEqual(score, SCORE)


def plain_deeds(frame, score, pace):
    """Points 27 and 28, looked at tick by tick: which line, if any, is gone with each tick."""
    told, place, free = [], 0, 0
    row = frame[0] + frame[2]
    for tick in range(frame[1] * row):
        if tick < free or not place < len(score):
            continue
        word, *parts = score[place]
        if word == "wait" and tick < parts[0] * row + parts[1]:
            continue
        free = tick + pace
        if word == "do":
            told.append((tick, parts[0]))
        if word == "to":
            place = parts[0]
        elif word == "skip" and tick >= parts[0] * row + parts[1]:
            place += 2
        else:
            place += 1
    return told


class DeedsBy(unittest.TestCase):
    def told(self, score, pace, frame=FRAME):
        deeds = deeds_by(frame, STAND, score, pace)
        self.assertIs(type(deeds), list)
        self.assertEqual(deeds, plain_deeds(frame, score, pace))
        return deeds

    def test_no_lines_and_no_deeds(self):
        for pace in range(1, 9):
            self.assertEqual(self.told([], pace), [])
            self.assertEqual(self.told([("wait", 0, 0)], pace), [])
            self.assertEqual(self.told([("to", 0)], pace), [])
            self.assertEqual(self.told([("skip", 0, 0)], pace), [])
            self.assertEqual(self.told([("to", 1), ("to", 0)], pace), [])

    def test_the_pace(self):
        for pace in range(1, 9):
            wished = [(0, A), (pace, B)] + ([(2 * pace, C)] if 2 * pace < TICKS else [])
            self.assertEqual(self.told([("do", A), ("do", B), ("do", C)], pace), wished)

    def test_a_wait_for_a_tick_to_come_at_hand_and_past(self):
        self.assertEqual(self.told([("wait", 0, 3), ("do", A)], 2), [(5, A)])
        self.assertEqual(self.told([("wait", 1, 3), ("do", A)], 1), [(9, A)])
        self.assertEqual(self.told([("do", A), ("wait", 0, 3), ("do", B)], 3), [(0, A), (6, B)])
        self.assertEqual(self.told([("do", A), ("wait", 0, 2), ("do", B)], 3), [(0, A), (6, B)])
        self.assertEqual(self.told([("do", A), ("wait", 0, 0), ("do", B)], 3), [(0, A), (6, B)])
        self.assertEqual(self.told([("do", A), ("wait", 0, 4), ("do", B)], 3), [(0, A), (7, B)])

    def test_a_wait_for_a_tick_in_a_gap_and_by_a_spot_beyond_its_row(self):
        self.assertEqual(self.told([("wait", 0, 4), ("do", A)], 1), [(5, A)])
        self.assertEqual(self.told([("wait", 1, 4), ("do", A)], 1), [])
        self.assertEqual(self.told([("wait", 0, 8), ("do", A)], 1), [(9, A)])
        self.assertEqual(self.told([("wait", 0, 7), ("do", A)], 1), [(8, A)])

    def test_a_wait_beyond_the_frame(self):
        for line in (("wait", 2, 0), ("wait", 0, 10), ("wait", 60, 60), ("wait", 1, 5), ("wait", 60, 0), ("wait", 0, 60)):
            self.assertEqual(self.told([("do", A), line, ("do", B), ("to", 0)], 1), [(0, A)])

    def test_a_skip_that_holds_and_one_that_does_not(self):
        for pace in (1, 2, 3):
            score = [("wait", 0, 3), ("skip", 0, 3 + pace), ("do", A), ("do", B)]
            self.assertEqual(self.told(score, pace)[0], (3 + 2 * pace, B))
            score = [("wait", 0, 3), ("skip", 0, 4 + pace), ("do", A), ("do", B)]
            self.assertEqual(self.told(score, pace)[0], (3 + 2 * pace, A))
        self.assertEqual(self.told([("skip", 0, 0), ("do", A), ("do", B)], 1), [(1, B)])
        self.assertEqual(self.told([("skip", 0, 1), ("do", A), ("do", B)], 1), [(1, A), (2, B)])
        self.assertEqual(self.told([("skip", 60, 60), ("do", A), ("do", B)], 1), [(1, A), (2, B)])

    def test_skips_at_the_scores_end(self):
        self.assertEqual(self.told([("do", A), ("skip", 0, 0), ("do", B)], 1), [(0, A)])
        self.assertEqual(self.told([("do", A), ("skip", 0, 1), ("do", B)], 1), [(0, A)])
        self.assertEqual(self.told([("do", A), ("skip", 0, 2), ("do", B)], 1), [(0, A), (2, B)])
        self.assertEqual(self.told([("do", A), ("skip", 0, 0)], 1), [(0, A)])
        self.assertEqual(self.told([("do", A), ("skip", 60, 60)], 1), [(0, A)])

    def test_lines_that_go_back_again_and_again(self):
        self.assertEqual(self.told([("do", A), ("to", 0)], 1), [(tick, A) for tick in (0, 2, 4, 6, 8)])
        self.assertEqual(self.told([("do", A), ("to", 0)], 4), [(0, A), (8, A)])
        self.assertEqual(self.told([("do", A), ("do", B), ("to", 1)], 2), [(0, A), (2, B), (6, B)])
        self.assertEqual(
            self.told([("do", A), ("skip", 0, 4), ("to", 0), ("do", B)], 1), [(0, A), (3, A), (5, B)]
        )

    def test_a_leap_ahead_over_lines(self):
        self.assertEqual(self.told([("to", 2), ("do", A), ("do", B)], 3), [(3, B)])

    def test_the_hands_end_at_the_last_tick_and_one_beyond_it(self):
        self.assertEqual(self.told([("wait", 1, 3), ("do", A), ("do", B)], 1), [(9, A)])
        self.assertEqual(self.told([("wait", 1, 2), ("do", A), ("do", B)], 1), [(8, A), (9, B)])
        self.assertEqual(self.told([("wait", 1, 1), ("do", A), ("do", B)], 3), [(9, A)])
        self.assertEqual(self.told([("wait", 1, 1), ("do", A), ("do", B)], 4), [])
        self.assertEqual(self.told([("do", A), ("do", B)], 1, (1, 1, 0, 0)), [(0, A)])
        self.assertEqual(self.told([("wait", 0, 0), ("do", B)], 1, (1, 1, 0, 0)), [])
        self.assertEqual(self.told([("do", A), ("do", B)], 8, (8, 1, 0, 0)), [(0, A)])
        self.assertEqual(self.told([("do", A), ("do", B)], 8, (8, 1, 1, 0)), [(0, A), (8, B)])

    def test_more_deeds_than_two_hundred(self):
        frame = (40, 40, 20, 12)
        self.assertEqual(self.told([("do", A), ("to", 0)], 1, frame), [(tick, A) for tick in range(0, 2400, 2)])
        self.assertEqual(len(self.told([("do", A)] * 99 + [("to", 0)], 1, frame)), 2376)

    def test_many(self):
        rng = random.Random(271)
        lengths = []
        for k in range(1500):
            frame, stand, pace = some_frame(rng), some_stand(rng), rng.randint(1, 8)
            score = some_score(rng, frame, stand, rng.choice((1, 2, 4, 8, 8, 30)))
            deeds = deeds_by(frame, stand, score, pace)
            self.assertEqual(deeds, plain_deeds(frame, score, pace), (frame, score, pace))
            lengths.append(len(deeds))
        self.assertGreater(len([many for many in lengths if many > 2]), 200)

    def test_what_is_handed_in_stays_and_the_told_list_is_the_askers_own(self):
        score = [("do", A), ("to", 0)]
        told = deeds_by(FRAME, STAND, score, 3)
        self.assertEqual(score, [("do", A), ("to", 0)])
        told.clear()
        again = deeds_by(FRAME, STAND, score, 3)
        self.assertEqual(again, [(0, A), (6, A)])
        score.clear()
        self.assertEqual(again, [(0, A), (6, A)])


class Played(unittest.TestCase):
    def test_a_known_picture(self):
        beam = played(FRAME, BARE, [("do", ("pot", 0, 1)), ("wait", 0, 3), ("do", ("pot", 0, 2)), ("to", 0)], 2)
        self.assertIsInstance(beam, Beam)
        # Deeds at the ticks 0, 5 and 9: the second row begins with the tick 5.
        self.assertEqual(beam.picture(), [[1, 1, 1, 1], [2, 2, 2, 2]])
        self.assertEqual(beam.stand()[4][0], 1)

    def test_it_lays_what_its_deeds_lay(self):
        rng = random.Random(281)
        for k in range(200):
            frame, stand, pace = some_frame(rng), some_stand(rng), rng.randint(1, 8)
            score = some_score(rng, frame, stand, rng.choice((1, 3, 10)))
            before = copy.deepcopy(score)
            beam = played(frame, stand, score, pace)
            wished = plain_laid(frame, stand, plain_deeds(frame, score, pace))
            self.assertIs(beam.is_over(), True)
            self.assertEqual(beam.picture(), wished.picture)
            self.assertEqual(beam.stand(), wished.stand)
            self.assertEqual(beam.touches(), wished.touches())
            self.assertEqual(beam.grounds(), wished.grounds())
            self.assertEqual(beam.lost(), wished.lost)
            self.assertEqual(score, before)

    def test_more_deeds_than_two_hundred(self):
        frame, score = (20, 20, 0, 2), [("do", A), ("do", B), ("to", 0)]
        self.assertEqual(played(frame, STAND, score, 1).picture(), plain_laid(
            frame, STAND, plain_deeds(frame, score, 1)).picture)

    def test_what_is_done_to_the_score_later_changes_nothing(self):
        score = [("do", A), ("to", 0)]
        beam = played(FRAME, STAND, score, 2)
        before = beam.picture()
        score.clear()
        self.assertEqual(beam.picture(), before)


class Refused(unittest.TestCase):
    """Each refusal, by deeds_by and by played alike, and the first that is due of several."""

    def refused(self, refusal, frame, stand, score, at):
        for ask in (deeds_by, played):
            with self.assertRaises(refusal, msg=(ask, at)):
                ask(frame, stand, score, 2)

    def test_no_frame(self):
        for at, thing in enumerate(odd_things() + [list(FRAME), (0, 2, 1, 2), (4, 2, 1, 13), STAND]):
            self.refused(NoFrame, thing, STAND, SCORE, at)
            self.refused(NoFrame, thing, thing, SCORE, at)
            self.refused(NoFrame, thing, STAND, thing, at)
            self.refused(NoFrame, thing, thing, thing, at)

    def test_no_stand(self):
        for at, thing in enumerate(odd_things() + [list(STAND), STAND[:4], FRAME, STAND[:4] + (POTS[:15],)]):
            self.refused(NoStand, FRAME, thing, SCORE, at)
            self.refused(NoStand, FRAME, thing, [], at)
            self.refused(NoStand, FRAME, thing, thing, at)
            self.refused(NoStand, FRAME, thing, None, at)

    def test_no_score(self):
        wrong = [thing for thing in odd_things() if thing != []]
        wrong += [tuple(SCORE), SCORE + [None], [("to", 1)], [("do", ("pot", 16, 0))], [("wait", 61, 0)]]
        wrong += [[("wait", 0, 0)] * 101, [("wait", 0, 0)] * 102, [["do", A]], [("to", True)]]
        for at, thing in enumerate(wrong):
            self.refused(NoScore, FRAME, STAND, thing, at)

    def test_a_score_of_another_stand(self):
        self.refused(NoScore, FRAME, BARE, SCORE, 0)

    def test_what_is_wrong_beyond_the_hands_end_is_refused_too(self):
        self.refused(NoScore, FRAME, STAND, [("to", 0), ("do", None)], 0)
        self.refused(NoScore, FRAME, STAND, [("wait", 60, 60), ("to", 2)], 1)

    def test_what_is_refused_changes_nothing(self):
        score = SCORE + [("to", 60)]
        before = copy.deepcopy(score)
        self.refused(NoScore, FRAME, STAND, score, 0)
        self.assertEqual(score, before)


def plain_scored(frame, timed, pace):
    """Point 28 by looking at every wait: how few lines make the deeds, or ("late", place)."""
    fewest = {0: 0}
    for place, (tick, deed) in enumerate(timed):
        for due in range(tick + 1):
            for until in range(tick + 1):
                if due in fewest:
                    behind = max(due, until) + pace
                    fewest[behind] = min(fewest.get(behind, 1000), fewest[due] + 1)
        if tick not in fewest or not 0 <= tick < frame[1] * (frame[0] + frame[2]):
            return ("late", place)
        fewest = {tick + pace: fewest[tick] + 1}
    return sum(fewest.values())


class ScoreFor(unittest.TestCase):
    def look(self, frame, timed, pace, stand=STAND):
        """Looks at what is told, and tells it."""
        before = copy.deepcopy(timed)
        told, wished = score_for(frame, timed, pace), plain_scored(frame, timed, pace)
        self.assertEqual(timed, before)
        self.assertIs(type(told), tuple)
        if isinstance(wished, tuple):
            self.assertEqual(told, wished, (frame, timed, pace))
            return told
        word, score = told
        self.assertEqual(word, "score", (frame, timed, pace))
        self.assertIs(type(score), list)
        self.assertEqual(len(score), wished, (frame, timed, pace))
        self.assertIs(is_score(stand, score), True)
        self.assertEqual([line for line in score if line[0] not in ("wait", "do")], [])
        self.assertEqual(plain_deeds(frame, score, pace), timed)
        self.assertEqual(deeds_by(frame, stand, score, pace), timed)
        return told

    def test_none(self):
        for pace in range(1, 9):
            self.assertEqual(self.look(FRAME, [], pace), ("score", []))

    def test_one_at_every_tick(self):
        for pace in range(1, 9):
            for tick in range(TICKS):
                told = self.look(FRAME, [(tick, A)], pace)
                if tick == 0:
                    self.assertEqual(told, ("score", [("do", A)]))
                elif tick < pace:
                    self.assertEqual(told, ("late", 0))
                else:
                    self.assertEqual(len(told[1]), 2)

    def test_two_at_every_two_ticks(self):
        for pace in range(1, 9):
            for one in range(TICKS):
                for two in range(one, TICKS):
                    told = self.look(FRAME, [(one, A), (two, B)], pace)
                    if one == 0 and two == pace:
                        self.assertEqual(told, ("score", [("do", A), ("do", B)]))
                    elif one == 0 and two < 2 * pace:
                        self.assertEqual(told, ("late", 1))

    def test_three_at_every_three_ticks(self):
        for pace in (1, 2, 3, 4):
            for one in range(TICKS):
                for two in range(one, TICKS):
                    for three in range(two, TICKS):
                        self.look(FRAME, [(one, A), (two, B), (three, C)], pace)

    def test_several_of_one_tick(self):
        for pace in (1, 2, 8):
            self.assertEqual(self.look(FRAME, [(0, A), (0, B)], pace), ("late", 1))
            self.assertEqual(self.look(FRAME, [(8, A), (8, B), (8, C)], pace), ("late", 1))

    def test_the_first_that_is_late(self):
        self.assertEqual(self.look(FRAME, [(0, A), (2, B), (4, C), (5, A), (5, B)], 2), ("late", 3))
        self.assertEqual(self.look(FRAME, [(0, A), (2, B), (4, C), (7, A), (9, B)], 2), ("late", 3))
        self.assertEqual(self.look(FRAME, [(0, A), (2, B), (4, C), (8, A), (9, B)], 2), ("late", 4))

    def test_the_last_tick_and_beyond(self):
        for pace in range(1, 9):
            self.assertEqual(self.look(FRAME, [(TICKS - 1, A)], pace)[0], "score")
            self.assertEqual(self.look(FRAME, [(TICKS, A)], pace), ("late", 0))
            self.assertEqual(self.look((1, 1, 0, 0), [(0, A)], pace), ("score", [("do", A)]))
            self.assertEqual(self.look((1, 1, 0, 0), [(0, A), (pace, B)], pace), ("late", 1))

    def test_deeds_of_any_stand(self):
        stand = STAND[:3] + (((0, 0, 0, 0, 0),) * 12,) + STAND[4:]
        self.look(FRAME, [(0, ("move", 11, -1000, 1000)), (4, ("shape", 9, None))], 2, stand)

    def test_fifty_deeds(self):
        frame = (40, 40, 20, 0)
        for pace in (1, 8):
            told = self.look(frame, [(2 * pace * k + pace + 3, A) for k in range(50)], pace)
            self.assertEqual(len(told[1]), 100)
            self.assertEqual(len(self.look(frame, [(pace * k, A) for k in range(50)], pace)[1]), 50)

    def test_somewhat_more_than_fifty(self):
        # A list of more than a hundred lines is no score, so the first deed that needs such a line is late.
        frame = (40, 40, 20, 0)
        self.assertEqual(score_for(frame, [(2 * k + 1, A) for k in range(51)], 1), ("late", 50))
        self.assertEqual(len(self.look(frame, [(k, A) for k in range(60)], 1)[1]), 60)
        self.assertEqual(len(self.look(frame, [(k, A) for k in range(100)], 1)[1]), 100)
        self.assertEqual(score_for(frame, [(k, A) for k in range(101)], 1), ("late", 100))

    def test_many(self):
        rng = random.Random(282)
        words = {"score": 0, "late": 0}
        for k in range(600):
            frame, stand, pace = some_frame(rng), some_stand(rng), rng.randint(1, 8)
            last = frame[1] * (frame[0] + frame[2]) - 1
            tick, timed = rng.choice((0, 0, pace, pace + 1, pace - 1)), []
            while tick <= last and len(timed) < 50:
                timed.append((tick, some_deed(rng, stand)))
                tick += rng.choice((pace, pace, 2 * pace, 3 * pace, 2 * pace + 1, rng.randint(2 * pace - 1, 9 * pace)))
            words[self.look(frame, timed, pace, stand)[0]] += 1
            self.look(frame, some_timed(rng, frame, stand, rng.choice((1, 2, 4))), pace, stand)
        self.assertGreater(min(words.values()), 50, words)

    def test_the_deeds_of_a_score_of_waits_and_dos_are_scored_again(self):
        rng = random.Random(283)
        for k in range(300):
            frame, stand, pace = some_frame(rng), some_stand(rng), rng.randint(1, 4)
            score = [line for line in some_score(rng, frame, stand, 30) if line[0] in ("wait", "do")]
            told = self.look(frame, plain_deeds(frame, score, pace), pace, stand)
            self.assertEqual(told[0], "score")
            self.assertLessEqual(len(told[1]), len(score))

    def test_the_told_score_is_the_askers_own(self):
        timed = [(0, A), (6, B)]
        told = score_for(FRAME, timed, 2)
        before = copy.deepcopy(told)
        told[1].clear()
        again = score_for(FRAME, timed, 2)
        self.assertEqual(again, before)
        timed.clear()
        self.assertEqual(again, before)


if __name__ == "__main__":
    unittest.main()
