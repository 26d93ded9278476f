"""Point 38: a desk, its rows and what is none, its refusals and which goes first, its looks, what is taken back."""

import random
import re
import unittest

from anything import odd_things
from glowrow.desk import Desk
from glowrow.errors import GlowError, NoDeed, NoFrame, NoRow, NoStand, NoTick, Over
from glowrow.frames import is_frame, ticks_of
from glowrow.laying import laid, slips
from glowrow.packing import packed
from glowrow.stands import is_deed, is_stand
from glowrow.texts import picture_text, plan_text, read_plan
from plans import ALL_SIGNS, LEAST_TEXT, NUMBER, OTHER_WORDS, PART, SIGNS, changed_texts, exchanged

FIRST = ((1, 1, 0, 0), (((0,),), (0, 0), (), (), (0,) * 16), [])
ROWS = "[0-9a-zA-Z+/-]+"
FORMS = {
    "frame": f"frame(?: {PART}){{4}}", "floor": f"floor {ROWS}", "shift": f"shift(?: {PART}){{2}}",
    "pots": "pots [0-9a-zA-Z+-]+", "shape": f"shape {ROWS}", "mover": f"mover(?: {PART}){{5}}",
    "at": f"at {NUMBER} (?:shift|move|shape|rank|turn|pot)(?: {PART})*", "drop": f"drop {NUMBER}", "back": "back",
    "plan": "plan", "lay": "lay", "pack": "pack", "touches": "touches", "grounds": "grounds", "lost": "lost",
    "slips": "slips",
}
LOOKS = ("plan", "lay", "pack", "touches", "grounds", "lost", "slips")
SETTING = (
    "frame 4 2 1 2", "floor 102/030", "pots klmnopqrstuvwxyz", "shape 45/60", "shape 7", "mover 0 1 0 1 0",
    "mover 1 2 0 0 0", "mover 1 2 0 3 0", "at 5 pot 0 63", "at 2 pot 5 1", "at 5 shift 1 0",
)


def part_of(word):
    return None if word == "off" else int(word)


def block_of(word):
    return tuple(tuple(SIGNS.index(sign) for sign in row) for row in word.split("/"))


def entries(told):
    return " ".join(":".join(map(str, entry)) for entry in told) or "none"


class PlainDesk:
    """A desk by the document's words: each row is looked at by its form as a whole."""

    def __init__(self):
        self.plans, self.may_back = [FIRST], 0

    def say(self, row):
        """The answer, or the class of the refusal."""
        word = row.split(" ")[0] if isinstance(row, str) else None
        if word not in FORMS or not re.fullmatch(FORMS[word], row):
            return NoRow
        if word in LOOKS:
            return self.look(word)
        if word == "back":
            return self.back()
        plan = self.changed(word, row.split(" ")[1:])
        refusal = NoDeed if plan is None else self.refusal(*plan)
        if refusal is None:
            self.plans.append(plan)
            self.may_back = min(100, self.may_back + 1)
        return refusal or "ok"

    def back(self):
        if self.may_back == 0:
            return Over
        self.plans.pop()
        self.may_back -= 1
        return "ok"

    def changed(self, word, words):
        frame, stand, timed = self.plans[-1]
        stand, timed = list(stand), list(timed)
        if word == "frame":
            frame = tuple(map(part_of, words))
        elif word in ("floor", "pots"):
            stand[0 if word == "floor" else 4] = block_of(words[0]) if word == "floor" else block_of(words[0])[0]
        elif word == "shift":
            stand[1] = tuple(map(part_of, words))
        elif word == "shape":
            stand[2] += (block_of(words[0]),)
        elif word == "mover":
            stand[3] += (tuple(map(part_of, words)),)
        elif word == "at":
            timed.append((int(words[0]), (words[1],) + tuple(map(part_of, words[2:]))))
            timed.sort(key=lambda pair: pair[0])
        elif int(words[0]) in range(len(timed)):
            timed.pop(int(words[0]))
        else:
            return None
        return (frame, tuple(stand), timed)

    def refusal(self, frame, stand, timed):
        if not is_frame(frame):
            return NoFrame
        if not is_stand(stand):
            return NoStand
        if not all(0 <= tick < ticks_of(frame) for tick, deed in timed):
            return NoTick
        if not all(is_deed(stand, deed) for tick, deed in timed):
            return NoDeed
        return Over if len(timed) > 60 else None

    def look(self, word):
        plan = self.plans[-1]
        if word == "plan":
            return plan_text(*plan)
        if word == "slips":
            return NoDeed if len(plan[2]) > 40 else entries([(place,) for place in slips(*plan)])
        beam = laid(*plan)
        if word in ("lay", "pack"):
            return (picture_text if word == "lay" else packed)(beam.picture())
        return entries({"touches": beam.touches, "grounds": beam.grounds, "lost": beam.lost}[word]())


def answer(desk, row):
    """What a desk answers, or the class of its refusal."""
    try:
        return desk.say(row)
    except GlowError as refusal:
        return type(refusal)


def setting():
    """A desk and the plain one, both told an ordinary plan."""
    desk, plain = Desk(), PlainDesk()
    for row in SETTING:
        assert desk.say(row) == "ok" and plain.say(row) == "ok", row
    return desk, plain


class DeskTest(unittest.TestCase):
    def look(self, desk, plain, row):
        """Tells a row to both, looks that they answer alike and then have one plan, and tells the answer."""
        wished = plain.say(row)
        self.assertEqual(answer(desk, row), wished, repr(row)[:200])
        self.assertEqual(desk.say("plan"), plan_text(*plain.plans[-1]), repr(row)[:200])
        return wished

    def refused(self, desk, refusal, *rows):
        """Looks that each of these rows is refused and changes nothing."""
        before = desk.say("plan")
        for row in rows:
            with self.assertRaises(refusal, msg=repr(row)[:200]) as caught:
                desk.say(row)
            self.assertIs(type(caught.exception), refusal)
            self.assertEqual(desk.say("plan"), before)

    def told(self, desk, *rows):
        for row in rows:
            self.assertEqual(desk.say(row), "ok", row)


class Rows(DeskTest):
    def test_at_first(self):
        desk = Desk()
        self.assertEqual(desk.say("plan"), LEAST_TEXT)
        self.assertEqual(desk.say("lay"), "0")
        self.assertEqual(desk.say("pack"), "11!10")
        for row in ("touches", "grounds", "lost", "slips"):
            self.assertEqual(desk.say(row), "none")
        self.refused(desk, Over, "back")

    def test_an_ordinary_plan(self):
        desk = Desk()
        self.told(desk, *SETTING)
        self.assertEqual(desk.say("plan"), "\n".join((
            "frame 4 2 1 2", "floor 102/030", "shift 0 0", "pots klmnopqrstuvwxyz", "shape 45/60", "shape 7",
            "mover 0 1 0 1 0", "mover 1 2 0 0 0", "mover 1 2 0 3 0", "at 2 pot 5 1", "at 5 pot 0 63", "at 5 shift 1 0",
        )))
        self.assertEqual(desk.say("lay"), "lo1l\nnq-n")
        self.assertEqual(desk.say("touches"), "0:1:0:2")
        self.assertEqual(desk.say("grounds"), "0:0:2 1:0:2")
        self.assertEqual(desk.say("lost"), "0:2")
        self.assertEqual(desk.say("slips"), "2")
        self.assertEqual(desk.say("pack"), "42!8lo1lnq-n")

    def test_each_row_that_changes_the_plan(self):
        for row, line in (
            ("frame 40 40 20 12", "frame 40 40 20 12"), ("frame 1 1 0 0", "frame 1 1 0 0"), ("floor f", "floor f"),
            ("floor 01/23/45", "floor 01/23/45"), ("shift -1000 1000", "shift -1000 1000"), ("shift 0 0", "shift 0 0"),
            ("pots 0123456789abcd+-", "pots 0123456789abcd+-"), ("shape 1/2", "shape 1/2"),
            ("mover off 5 -6 3 1", "mover off 5 -6 3 1"), ("at 0 pot 15 63", "at 0 pot 15 63"),
            ("at 0 shift -1 1", "at 0 shift -1 1"),
        ):
            desk = Desk()
            self.told(desk, row)
            self.assertIn(line, desk.say("plan").split("\n"))
            self.told(desk, "back")
            self.assertEqual(desk.say("plan"), LEAST_TEXT)

    def test_deeds_of_all_words(self):
        desk, plain = setting()
        for row in (
            "at 0 shift 4 -5", "at 9 move 2 6 -7", "at 3 shape 0 1", "at 3 shape 1 off", "at 5 rank 1 2", "at 4 turn 0 1",
            "at 9 pot 15 63",
        ):
            self.assertEqual(self.look(desk, plain, row), "ok")
        for row in (
            "at 0 move 3 0 0", "at 0 shape 0 2", "at 0 shape 0 -1", "at 0 rank 0 4", "at 0 turn 0 off", "at 0 pot 16 0",
            "at 0 pot 0 64", "at 0 pot 0", "at 0 pot", "at 0 pot 0 0 0", "at 0 shift 1001 0", "at 0 shift off 0",
            "at 0 move off 0 0", "at 0 shape off off", "at 0 rank 0 9999", "at 0 shift" + " 0" * 50,
        ):
            self.assertIs(self.look(desk, plain, row), NoDeed)

    def test_a_timed_deed_goes_behind_all_whose_tick_is_no_greater(self):
        desk = Desk()
        self.told(desk, "frame 9 1 0 0", "at 5 pot 0 1", "at 5 pot 0 2", "at 3 pot 0 3", "at 5 pot 0 4", "at 8 pot 0 5")
        self.told(desk, "at 3 pot 0 6", "at 0 pot 0 7", "at 8 pot 0 8")
        lines = desk.say("plan").split("\n")[4:]
        self.assertEqual(lines, [
            f"at {tick} pot 0 {hue}" for tick, hue in ((0, 7), (3, 3), (3, 6), (5, 1), (5, 2), (5, 4), (8, 5), (8, 8))
        ])

    def test_drops(self):
        desk, plain = setting()
        self.refused(desk, NoDeed, "drop 3", "drop 4", "drop -1", "drop -3", "drop 9999", "drop -9999")
        self.assertEqual(self.look(desk, plain, "drop 1"), "ok")
        self.assertEqual(desk.say("plan").split("\n")[-2:], ["at 2 pot 5 1", "at 5 shift 1 0"])
        self.assertIs(self.look(desk, plain, "drop 2"), NoDeed)
        self.assertEqual(self.look(desk, plain, "drop 1"), "ok")
        self.assertEqual(self.look(desk, plain, "drop 0"), "ok")
        self.refused(desk, NoDeed, "drop 0")
        self.told(desk, "back", "back")
        self.assertEqual(desk.say("plan").split("\n")[-2:], ["at 2 pot 5 1", "at 5 shift 1 0"])

    def test_rows_in_any_order(self):
        rows = ["frame 4 2 1 2", "floor 102/030", "pots klmnopqrstuvwxyz", "shift 1 1", "shape 45/60"]
        rng = random.Random(381)
        plans = []
        for k in range(10):
            rng.shuffle(rows)
            desk = Desk()
            self.told(desk, *rows)
            plans.append(desk.say("plan"))
        self.assertEqual(plans, [plans[0]] * 10)


class NoRows(DeskTest):
    def test_things_that_are_no_text(self):
        desk, plain = setting()
        for at, thing in enumerate(odd_things() + [["plan"], ("plan",), ("back",), ["frame", 1, 1, 0, 0]]):
            with self.assertRaises(NoRow, msg=at):
                desk.say(thing)
        self.assertEqual(desk.say("plan"), plan_text(*plain.plans[-1]))

    def test_other_words(self):
        desk, plain = setting()
        self.refused(
            desk, NoRow, "", " ", "Plan", "plans", "pla", "lays", "off", "0", "at", "frame", "look", "undo", "PLAN", "~",
            "None", "pot 0 0", "move 0 0 0", "turn 0 0", "rank 0 0", "off 1", "back back", "plan plan", "say plan",
            LEAST_TEXT, "\n", "plan\n", "\nplan",
        )

    def test_too_many_and_too_few_words(self):
        desk, plain = setting()
        for row in SETTING + ("shift 0 0", "drop 0", "back") + LOOKS:
            words = row.split(" ")
            if words[0] != "at":
                self.refused(desk, NoRow, row + " 0", row + " off", row + " ", " " + row, row + " " + row)
                if len(words) > 1:
                    self.refused(desk, NoRow, " ".join(words[:-1]), words[0] + " ")
        self.refused(desk, NoRow, "at", "at 0", "at 0 ", "at 0 pot ", "at 0 pot 0 0 ", "at  0 pot 0 0", "at 0  pot 0 0")
        self.refused(desk, NoRow, "shift  0 0", "shift 0  0", "shift 0 0 ", " shift 0 0", "drop  0", "drop 0 ", "floor  0")

    def test_parts_that_are_none_of_their_kind(self):
        desk, plain = setting()
        self.refused(
            desk, NoRow, "at off pot 0 0", "at x pot 0 0", "at 0 off 0 0", "at 0 0 0 0", "at 0 pots 0 0", "at 0 frame 0 0",
            "at 0 mover 0 0", "at pot 0 0 0", "at 0 pot x 0", "at 0 pot 0 /", "drop off", "drop x", "drop pot", "drop 0/0",
            "frame x 1 0 0", "frame 1/1 1 0 0", "shift a b", "mover Off 0 0 0 0", "mover None 0 0 0 0", "floor 0~",
            "floor 0.0", "floor 0 0", "shape !", "shape *", "shape 0|0", "pots 0/0", "pots /", "pots 0000000000000000/",
            "pots ~", "pots off/", "floor \n", "floor 0\n0", "shift 0 0\n", "shift \n0 0",
        )

    def test_numbers_written_otherwise(self):
        desk, plain = setting()
        for number in (
            "00", "01", "-0", "-01", "+1", "+0", "--1", "1-", "-", "", "1_0", "1.0", "0x1", "1e1", "10000", "99999",
            "-10000", "00000", "12345", "9" * 60, "9" * 5000, "-" + "9" * 60, "0001", "\t1", "1\n",
        ):
            self.refused(
                desk, NoRow, f"shift {number} 0", f"shift 0 {number}", f"frame 1 1 0 {number}", f"drop {number}",
                f"at {number} pot 0 0", f"at 0 pot {number} 0", f"mover {number} 0 0 0 0", f"mover 0 0 0 0 {number}",
            )

    def test_numbers_of_four_figures(self):
        desk, plain = setting()
        self.refused(desk, NoStand, "shift 9999 0", "shift 0 -9999", "shift 1001 0", "mover 9999 0 0 0 0")
        self.refused(desk, NoFrame, "frame 9999 1 0 0", "frame 1 -9999 0 0")
        self.refused(desk, NoTick, "at 9999 pot 0 0", "at -9999 pot 0 0")
        self.refused(desk, NoDeed, "at 0 pot 0 9999", "at 0 move 0 -9999 0", "drop 9999", "drop -9999")

    def test_one_sign_another_one_left_out_put_in_or_exchanged(self):
        desk, plain = setting()
        rows = SETTING[:1] + SETTING[3:4] + SETTING[5:6] + SETTING[8:9] + ("shift -7 10", "drop 2", "floor 1/2", "back")
        answers = {}
        for row in rows + LOOKS:
            for text in changed_texts(row):
                told = self.look(desk, plain, text)
                answers[told] = answers.get(told, 0) + 1
                if told == "ok" and len(plain.plans) > 30:
                    desk, plain = setting()
        for told in ("ok", NoRow, NoFrame, NoStand, NoTick, NoDeed):
            self.assertGreater(answers[told], 10, told)

    def test_one_word_another_one_left_out_put_in_or_exchanged(self):
        for row in SETTING + ("shift -7 10", "drop 2", "back", "slips"):
            desk, plain = setting()
            words = row.split(" ")
            told = [words[:at] + words[at + 1:] for at in range(len(words))]
            for other in OTHER_WORDS + ("back", "drop", "lay", "shape", "slips", "0/", "rank"):
                told += [words[:at] + [other] + words[at + 1:] for at in range(len(words))]
                told += [words[:at] + [other] + words[at:] for at in range(len(words) + 1)]
            told += [exchanged(words, at, to) for at in range(len(words)) for to in range(at)]
            for other in told:
                self.look(desk, plain, " ".join(other))

    def test_every_sign_alone(self):
        desk, plain = setting()
        for sign in ALL_SIGNS:
            self.assertIs(self.look(desk, plain, sign), NoRow)
            for row in ("floor ", "pots ", "shape ", "shift 0 ", "drop ", "at ", "at 0 "):
                self.look(desk, plain, row + sign)


class Refusals(DeskTest):
    def test_no_frame(self):
        desk, plain = setting()
        self.refused(
            desk, NoFrame, "frame 0 1 0 0", "frame 41 1 0 0", "frame 1 0 0 0", "frame 1 41 0 0", "frame 1 1 -1 0",
            "frame 1 1 21 0", "frame 1 1 0 -1", "frame 1 1 0 13", "frame off 1 0 0", "frame 1 1 0 off", "frame off off off off",
        )

    def test_no_stand(self):
        desk, plain = setting()
        self.refused(
            desk, NoStand, "floor /", "floor 0/", "floor /0", "floor 0//0", "floor g", "floor -", "floor 0/00", "floor off",
            "floor " + "0" * 17, "floor 0" + "/0" * 16, "floor " + "0" * 5000, "floor " + "/" * 5000, "shift off 0",
            "shift 0 off", "shift 1001 0", "shift 0 -1001", "pots 0", "pots " + "0" * 15, "pots " + "0" * 17, "pots off",
            "shape /", "shape 0/", "shape g", "shape 012345678", "shape 0" + "/0" * 8, "shape 0/00", "mover 2 0 0 0 0",
            "mover -1 0 0 0 0", "mover 0 off 0 0 0", "mover 0 0 off 0 0", "mover 0 0 0 off 0", "mover 0 0 0 0 off",
            "mover 0 1001 0 0 0", "mover 0 0 -1001 0 0", "mover 0 0 0 4 0", "mover 0 0 0 0 4",
        )

    def test_shapes_and_movers_up_to_their_bounds(self):
        desk = Desk()
        self.refused(desk, NoStand, "mover 0 0 0 0 0")
        for k in range(8):
            self.told(desk, f"shape {k}")
        self.refused(desk, NoStand, "shape 1", "mover 8 0 0 0 0")
        for k in range(12):
            self.told(desk, f"mover {k % 8} 0 0 0 0")
        self.refused(desk, NoStand, "mover 0 0 0 0 0", "mover off 0 0 0 0")

    def test_no_tick(self):
        desk, plain = setting()
        self.refused(desk, NoTick, "at 10 pot 0 0", "at -1 pot 0 0", "at 11 shift 0 0", "at 2400 pot 0 0")
        # Smaller frames that have no longer all ticks of the timed deeds.
        self.refused(desk, NoTick, "frame 4 1 1 2", "frame 1 1 0 0", "frame 2 2 0 2", "frame 5 1 0 0")
        self.told(desk, "frame 3 2 0 2", "frame 6 1 0 0", "frame 1 6 0 0")
        self.refused(desk, NoTick, "at 6 pot 0 0", "frame 1 5 0 0")
        self.told(desk, "at 5 pot 0 0")

    def test_the_first_that_is_due_of_several(self):
        desk, plain = setting()
        self.refused(desk, NoRow, "at 10 pots 0 0", "at 10 pot 00 0", "frame 0 01 0 0", "shift off x", "mover 9 9 9 9")
        self.refused(desk, NoFrame, "frame 0 1 0 0", "frame 1 1 0 13")
        self.refused(desk, NoTick, "at 10 pot 16 0", "at -1 pot", "at 10 rank 9 9")
        for k in range(57):
            self.told(desk, "at 5 pot 1 1")
        self.refused(desk, NoRow, "at 5 pot x 0", "at 5")
        self.refused(desk, NoTick, "at 10 pot 0 0", "at 10 pot 16 0")
        self.refused(desk, NoDeed, "at 5 pot 16 0", "at 5 pot", "drop 60", "slips")
        self.refused(desk, Over, "at 5 pot 0 0", "at 0 shift 0 0")

    def test_more_than_sixty_timed_deeds(self):
        desk = Desk()
        for k in range(60):
            self.told(desk, f"at 0 pot 0 {k}")
        for k in range(3):
            self.refused(desk, Over, "at 0 pot 0 0", "at 0 shift 1 1")
        self.assertEqual(len(desk.say("plan").split("\n")), 64)
        self.told(desk, "shift 1 1", "drop 59", "at 0 pot 1 1")
        self.refused(desk, Over, "at 0 pot 0 0")
        self.told(desk, "back", "at 0 pot 2 2")
        self.refused(desk, Over, "at 0 pot 0 0")
        self.assertTrue(desk.say("plan").endswith("at 0 pot 0 58\nat 0 pot 2 2"))

    def test_slips_of_more_than_forty(self):
        desk, plain = setting()
        for k in range(37):
            self.told(desk, f"at 6 pot 0 {k}")
        self.assertEqual(desk.say("slips"), "2 39")
        self.told(desk, "at 6 pot 0 50")
        self.refused(desk, NoDeed, "slips")
        self.assertEqual(desk.say("lay").split("\n")[0], "lo1l")
        self.told(desk, "drop 40")
        self.assertEqual(desk.say("slips"), "2 39")


class Back(DeskTest):
    def test_each_change_once(self):
        desk = Desk()
        plans = [desk.say("plan")]
        for row in SETTING + ("drop 0", "shift 5 5"):
            self.told(desk, row)
            plans.append(desk.say("plan"))
        for plan in plans[-2::-1]:
            self.told(desk, "back")
            self.assertEqual(desk.say("plan"), plan)
        self.refused(desk, Over, "back", "back")

    def test_a_row_that_leaves_the_plan_alike(self):
        desk = Desk()
        self.told(desk, "shift 3 3", "shift 3 3", "frame 1 1 0 0")
        for row in ("shift 3 3", "shift 3 3", "shift 0 0"):
            before = desk.say("plan")
            self.told(desk, "back")
        self.assertNotEqual(desk.say("plan"), before)
        self.assertEqual(desk.say("plan"), LEAST_TEXT)
        self.refused(desk, Over, "back")

    def test_looks_and_refusals_are_not_taken_back(self):
        desk = Desk()
        self.told(desk, "shift 3 3")
        for row in LOOKS:
            desk.say(row)
        self.refused(desk, NoStand, "shift off 0")
        self.refused(desk, NoRow, "shift")
        self.refused(desk, NoDeed, "drop 0")
        self.told(desk, "back")
        self.assertEqual(desk.say("plan"), LEAST_TEXT)

    def test_up_to_the_last_hundred(self):
        for many in (99, 100, 101, 150, 230):
            desk = Desk()
            for k in range(many):
                self.told(desk, f"shift {k + 1} 0")
            for k in range(min(many, 100)):
                self.told(desk, "back")
            self.assertIn(f"\nshift {max(0, many - 100)} 0\n", desk.say("plan"))
            self.refused(desk, Over, "back", "back")
            self.told(desk, "shift 7 7", "back")
            self.refused(desk, Over, "back")


class Looks(DeskTest):
    def look_at_all(self, desk, plain):
        for row in LOOKS:
            told = self.look(desk, plain, row)
            self.assertTrue(isinstance(told, str) or row == "slips")
        self.assertEqual(read_plan(desk.say("plan")), plain.plans[-1])

    def test_of_ordinary_plans(self):
        desk, plain = setting()
        self.look_at_all(desk, plain)
        for row in ("mover 0 2 1 2 3", "frame 6 6 0 12", "shift -1 1", "at 30 move 0 2 5", "drop 0"):
            self.look(desk, plain, row)
            self.look_at_all(desk, plain)

    def test_many_entries(self):
        desk = Desk()
        self.told(desk, "frame 3 3 0 2", "floor 1", "shape 1/1", *["mover 0 1 0 1 0"] * 4)
        self.assertEqual(desk.say("touches"), "0:1:0:1")
        self.assertEqual(desk.say("grounds"), "0:0:1 1:0:1")
        self.assertEqual(desk.say("lost"), "0:2 0:3 1:2 1:3")
        self.told(desk, "frame 3 3 0 12")
        self.assertEqual(desk.say("touches"), "0:1:0:1 0:2:0:1 0:3:0:1 1:2:0:1 1:3:0:1 2:3:0:1")
        self.assertEqual(desk.say("lost"), "none")

    def test_a_great_plan(self):
        desk, plain = setting()
        for row in ("frame 40 40 20 12", "at 2399 pot 0 1", "at 1200 move 0 20 25", "floor " + "012/" * 15 + "210"):
            self.assertEqual(self.look(desk, plain, row), "ok")
        self.look_at_all(desk, plain)

    def test_driven_by_chance(self):
        rng = random.Random(382)
        seen = {}
        for k in range(30):
            desk, plain = Desk(), PlainDesk()
            for step in range(rng.choice((30, 30, 30, 400))):
                told = self.look(desk, plain, some_row(rng, plain.plans[-1]))
                seen[told] = seen.get(told, 0) + 1
            self.look_at_all(desk, plain)
        for told in ("ok", NoRow, NoFrame, NoStand, NoTick, NoDeed, Over):
            self.assertGreater(seen[told], 2, told)

    def test_two_desks_by_turns(self):
        rng = random.Random(383)
        desks = [(Desk(), PlainDesk()), (Desk(), PlainDesk())]
        for step in range(400):
            desk, plain = desks[rng.randrange(2)]
            self.look(desk, plain, some_row(rng, plain.plans[-1]))
            for other, its_plain in desks:
                self.assertEqual(other.say("plan"), plan_text(*its_plain.plans[-1]))
        for desk, plain in desks:
            self.look_at_all(desk, plain)


def some_number(rng, low, high):
    """Mostly within the bounds, now and then at or beyond them, or written otherwise."""
    way = rng.randrange(40)
    if way == 0:
        return rng.choice(("off", "-1", "00", "9999", "10000", "x", ""))
    if way < 4:
        return str(rng.choice((low, high, low - 1, high + 1)))
    return str(rng.randint(low, high))


def some_rows(rng, most):
    if rng.randrange(12) == 0:
        return rng.choice(("/", "0/", "g", "0/00", "~", "", "0" * 17))
    wide = rng.randint(1, most)
    return "/".join("".join(rng.choice("0001234f") for x in range(wide)) for row in range(rng.randint(1, most)))


def some_row(rng, plan):
    """A row of any head, mostly one that is done."""
    frame, stand, timed = plan
    last = ticks_of(frame) - 1
    word = rng.choice(("frame", "floor", "shift", "pots", "shape", "mover", "at", "at", "at", "at", "drop", "back", "look"))
    if word == "look":
        return rng.choice(("lay", "touches", "grounds", "lost", "plan", "Plan", "back back", "", "look"))
    if word == "back":
        return word
    if word == "drop":
        return "drop " + some_number(rng, 0, max(0, len(timed) - 1))
    if word == "frame":
        return "frame " + " ".join(some_number(rng, 1, 9) for k in range(2)) + " " + some_number(rng, 0, 3) + " 3"
    if word == "shift":
        return f"shift {some_number(rng, -9, 9)} {some_number(rng, -9, 9)}"
    if word == "pots":
        return "pots " + "".join(rng.choice(SIGNS) for k in range(rng.choice((16, 16, 16, 15, 17, 0))))
    if word in ("floor", "shape"):
        return f"{word} {some_rows(rng, 4)}"
    movers, book = len(stand[3]), len(stand[2])
    if word == "mover":
        shape = rng.choice(("off", some_number(rng, 0, max(0, book - 1))))
        return f"mover {shape} {some_number(rng, -2, 8)} {some_number(rng, -2, 8)} {some_number(rng, 0, 3)} 0"
    deed = rng.choice((
        f"pot {some_number(rng, 0, 15)} {some_number(rng, 0, 63)}", f"shift {some_number(rng, -9, 9)} 0",
        f"move {some_number(rng, 0, max(0, movers - 1))} {some_number(rng, -2, 8)} 0",
        f"shape {some_number(rng, 0, max(0, movers - 1))} off", f"turn {some_number(rng, 0, max(0, movers - 1))} 3", "pot",
    ))
    return f"at {some_number(rng, 0, last)} {deed}"


if __name__ == "__main__":
    unittest.main()
