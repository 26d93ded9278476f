"""The desk: it is told rows, keeps a plan by them, and shows what that plan lays."""

from glowrow.errors import NoDeed, NoRow, NoText, Over
from glowrow.laying import check_plan, laid, slips
from glowrow.packing import packed
from glowrow.reel import Past
from glowrow.stands import with_part
from glowrow.texts import only, picture_text, plan_text, read_block, read_number, read_parts, read_signs, read_timed

DEED_WORDS = ("shift", "move", "shape", "rank", "turn", "pot")
MOST_TIMED = 60
MOST_SLIPS = 40


def first_plan():
    """Tell the plan that a desk has at first."""
    return ((1, 1, 0, 0), (((0,),), (0, 0), (), (), (0,) * 16), [])


def read_so_many(words, many):
    """Read just so many numbers and Nones, or refuse with NoText."""
    if len(words) != many:
        raise NoText("there are too many parts, or too few")
    return read_parts(words)


def full_word(words):
    """Tell the one word that is there, not an empty one, or refuse with NoText."""
    word = only(words)
    if word == "":
        raise NoText("there is no sign")
    return word


def read_rows(words):
    """Read rows of inks, or refuse with NoText."""
    return read_block([full_word(words)])


def with_frame(plan, words):
    """Tell the plan with another frame."""
    frame, stand, timed = plan
    return (read_so_many(words, 4), stand, timed)


def with_floor(plan, words):
    """Tell the plan with another floor."""
    frame, stand, timed = plan
    return (frame, with_part(stand, 0, read_rows(words)), timed)


def with_shift(plan, words):
    """Tell the plan with another shift."""
    frame, stand, timed = plan
    return (frame, with_part(stand, 1, read_so_many(words, 2)), timed)


def with_pots(plan, words):
    """Tell the plan with other pots."""
    frame, stand, timed = plan
    return (frame, with_part(stand, 4, tuple(read_signs(full_word(words)))), timed)


def with_shape(plan, words):
    """Tell the plan with one shape more."""
    frame, stand, timed = plan
    return (frame, with_part(stand, 2, stand[2] + (read_rows(words),)), timed)


def with_mover(plan, words):
    """Tell the plan with one mover more."""
    frame, stand, timed = plan
    return (frame, with_part(stand, 3, stand[3] + (read_so_many(words, 5),)), timed)


def with_timed(plan, words):
    """Tell the plan with one timed deed more, behind all whose tick is no greater."""
    frame, stand, timed = plan
    if len(words) < 2 or words[1] not in DEED_WORDS:
        raise NoText("a timed deed has a tick and a deed's word")
    told = read_timed(words)
    place = len([1 for tick, deed in timed if tick <= told[0]])
    return (frame, stand, timed[:place] + [told] + timed[place:])


def without_timed(plan, words):
    """Tell the plan without the timed deed at a place, or refuse with NoDeed where there is none."""
    frame, stand, timed = plan
    place = read_number(only(words))
    if not 0 <= place < len(timed):
        raise NoDeed("there is no timed deed at that place")
    return (frame, stand, timed[:place] + timed[place + 1:])


def beam_of(plan):
    """Tell the beam that a plan lays."""
    frame, stand, timed = plan
    return laid(frame, stand, timed)


def show_plan(plan):
    """Tell a plan's text."""
    frame, stand, timed = plan
    return plan_text(frame, stand, timed)


def show_picture(plan):
    """Tell the text of the picture laid."""
    return picture_text(beam_of(plan).picture())


def show_packing(plan):
    """Tell the packing of the picture laid."""
    return packed(beam_of(plan).picture())


def show_touches(plan):
    """Tell who touched whom."""
    return entries_text(beam_of(plan).touches())


def show_grounds(plan):
    """Tell who touched the ground."""
    return entries_text(beam_of(plan).grounds())


def show_lost(plan):
    """Tell who was lost."""
    return entries_text(beam_of(plan).lost())


def show_slips(plan):
    """Tell the places of the deeds that slip, or refuse with NoDeed where there are too many deeds."""
    frame, stand, timed = plan
    if len(timed) > MOST_SLIPS:
        raise NoDeed("there are too many timed deeds")
    return entries_text([(place,) for place in slips(frame, stand, timed)])


def entries_text(entries):
    """Write entries of numbers."""
    if not entries:
        return "none"
    return " ".join([":".join([str(number) for number in entry]) for entry in entries])


CHANGES = {
    "frame": with_frame, "floor": with_floor, "shift": with_shift, "pots": with_pots, "shape": with_shape,
    "mover": with_mover, "at": with_timed, "drop": without_timed,
}
LOOKS = {
    "plan": show_plan, "lay": show_picture, "pack": show_packing, "touches": show_touches, "grounds": show_grounds,
    "lost": show_lost, "slips": show_slips,
}


def plan_behind(plan, words):
    """Tell the plan behind a row that changes it, or refuse."""
    change = CHANGES[words[0]]
    try:
        frame, stand, timed = change(plan, words[1:])
    except NoText:
        raise NoRow("a part of the row is not of its kind") from None
    check_plan(frame, stand, timed)
    if len(timed) > MOST_TIMED:
        raise Over("there are too many timed deeds")
    return (frame, stand, timed)


class Desk:
    """A plan that is changed and looked at by rows."""

    def __init__(self):
        self.past = Past(first_plan())

    def say(self, row):
        """Tell the answer to a row, or refuse."""
        if not isinstance(row, str):
            raise NoRow("that is no text")
        words = row.split(" ")
        if words[0] in CHANGES:
            self.past.change(plan_behind(self.past.now, words))
            return "ok"
        if row == "back":
            self.past.back()
            return "ok"
        if row not in LOOKS:
            raise NoRow("there is no such row")
        look = LOOKS[row]
        return look(self.past.now)
