"""Scores: lines of deeds, rests and leaps that a hand goes along while the beam goes."""

from glowrow.beam import check_begin
from glowrow.errors import NoScore
from glowrow.frames import row_ticks, ticks_of
from glowrow.kinds import is_within
from glowrow.laying import laid
from glowrow.stands import is_deed

MOST_LINES = 100


def is_score(stand, thing):
    """Tell of anything whether it is a score of the stand."""
    if not isinstance(thing, list) or len(thing) > MOST_LINES:
        return False
    return all([is_line(stand, len(thing), part) for part in thing])


def is_line(stand, many, thing):
    """Tell of anything whether it is a line, for a stand and a count of lines."""
    if not isinstance(thing, tuple) or len(thing) < 2:
        return False
    word, parts = thing[0], thing[1:]
    if word == "wait" or word == "skip":
        return len(parts) == 2 and all([is_within(part, 0, 60) for part in parts])
    if len(parts) != 1:
        return False
    if word == "do":
        return is_deed(stand, parts[0])
    return word == "to" and is_within(parts[0], 0, many - 1)


def deeds_by(frame, stand, score, pace):
    """Tell the deeds of a score as timed deeds, or refuse with NoFrame, NoStand or NoScore."""
    check_begin(frame, stand)
    if not is_score(stand, score):
        raise NoScore("that is no score of the stand")
    timed = []
    place = 0
    tick = 0
    while place < len(score):
        line = score[place]
        tick = tick_of_line(frame, line, tick)
        if tick >= ticks_of(frame):
            return timed
        if line[0] == "do":
            timed.append((tick, line[1]))
        place = place_behind(frame, line, place, tick)
        # Each line takes its pace, so a score that leads back for ever ends with the frame's ticks.
        tick += pace
    return timed


def tick_named(frame, line):
    """Tell the tick that a wait or a skip names, be it one of the frame or not."""
    word, row, spot = line
    return row * row_ticks(frame) + spot


def tick_of_line(frame, line, tick):
    """Tell the tick at which a line is gone to which the hand comes at that tick."""
    if line[0] == "wait":
        return max(tick, tick_named(frame, line))
    return tick


def place_behind(frame, line, place, tick):
    """Tell the place of the line that comes behind this one, gone at that tick."""
    if line[0] == "to":
        return line[1]
    if line[0] == "skip" and tick >= tick_named(frame, line):
        return place + 2
    return place + 1


def played(frame, stand, score, pace):
    """Tell the beam that is laid with the deeds of a score, or refuse with NoFrame, NoStand or NoScore."""
    return laid(frame, stand, deeds_by(frame, stand, score, pace))


def score_for(frame, timed, pace):
    """Tell the briefest score of waits and dos that makes these timed deeds, or the first that is late."""
    score = []
    due = 0
    for place, (tick, deed) in enumerate(timed):
        lines = lines_until(frame, due, tick, pace)
        if lines is None or len(score) + len(lines) + 1 > MOST_LINES:
            return ("late", place)
        score += lines + [("do", deed)]
        due = tick + pace
    return ("score", score)


def lines_until(frame, due, tick, pace):
    """Tell the lines from one that is due at a tick to a do at another tick, or None where none lead there."""
    if tick == due and tick < ticks_of(frame):
        return []
    # A do doesn't rest by itself: a wait goes ahead of it by just the pace, and must not be too early itself.
    rest = tick - pace
    if due <= rest and tick < ticks_of(frame):
        row, spot = divmod(rest, row_ticks(frame))
        return [("wait", row, spot)]
    return None
