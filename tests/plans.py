"""Plans and their texts: a known one, texts that are somewhat otherwise, and a second reading of them."""

import re

from anything import odd_things
from glowrow.frames import is_frame, ticks_of
from glowrow.stands import is_deed, is_stand

SIGNS = "0123456789abcdefghijklmnopqrstuvwxyzABCDEFGHIJKLMNOPQRSTUVWXYZ+-"
ALL_SIGNS = [chr(number) for number in range(32, 127)] + ["\n"]
FRAME = (4, 2, 1, 2)
STAND = (
    ((0, 1), (2, 15)), (-7, 9), (((1, 10), (0, 3)), ((4, 5, 6),)), ((0, 3, -4, 1, 2), (None, -1000, 0, 0, 3)),
    (20, 21, 62, 23, 24, 25, 26, 27, 0, 9, 10, 35, 36, 61, 62, 63),
)
TIMED = [
    (0, ("shift", 4, -5)), (0, ("move", 1, 6, -7)), (3, ("shape", 0, 1)), (3, ("shape", 1, None)), (5, ("rank", 1, 2)),
    (9, ("turn", 0, 1)), (9, ("pot", 15, 63)),
]
PLAN = (FRAME, STAND, TIMED)
TEXT = """frame 4 2 1 2
floor 01/2f
shift -7 9
pots kl+nopqr09azAZ+-
shape 1a/03
shape 456
mover 0 3 -4 1 2
mover off -1000 0 0 3
at 0 shift 4 -5
at 0 move 1 6 -7
at 3 shape 0 1
at 3 shape 1 off
at 5 rank 1 2
at 9 turn 0 1
at 9 pot 15 63"""
LEAST = ((1, 1, 0, 0), (((0,),), (0, 0), (), (), (0,) * 16), [])
LEAST_TEXT = "frame 1 1 0 0\nfloor 0\nshift 0 0\npots 0000000000000000"


def no_texts():
    """Things of all kinds that are no texts."""
    things = [thing for thing in odd_things() if not isinstance(thing, str)]
    return things + [["0"], ("0",), [["0"]], [[0]], ([0],), [PLAN], (PLAN,), [TEXT], tuple(TEXT), list(TEXT)]


def changed_texts(text):
    """The text with one sign another one, left out, put in, or exchanged with its neighbour, at every place."""
    told = []
    for at in range(len(text) + 1):
        told.append(text[:at] + text[at + 1:])
        told.append(text[:at] + text[at + 1:at + 2] + text[at:at + 1] + text[at + 2:])
        for sign in ALL_SIGNS:
            told.append(text[:at] + sign + text[at:])
            told.append(text[:at] + sign + text[at + 1:])
    return [other for other in told if other != text]


OTHER_WORDS = (
    "", "0", "1", "-1", "-0", "00", "01", "+1", "1_0", "64", "1001", "-1001", "9" * 60, "9" * 5000, "off", "None",
    "frame", "floor", "at", "pot", "move", "mover", "0/0", "/", "0/", "/0", "0//0", "g", "True", "1.0", "Off",
)
OTHER_LINES = (
    "", " ", "at 9 pot 0 0", "shape 1", "mover off 0 0 0 0", "frame 1 1 0 0", "pots", "at 9", "at", "end",
)


def exchanged(things, one, other):
    """A list like the given one, but with two of its things in each other's places."""
    told = list(things)
    told[one], told[other] = told[other], told[one]
    return told


def with_other_words(text):
    """The text with one word another one, left out, put in, or exchanged with any other one, at every place."""
    words = re.split("([ \n])", text)
    told = []
    for at in range(0, len(words), 2):
        for other in OTHER_WORDS:
            told.append("".join(words[:at] + [other] + words[at + 1:]))
            told.append("".join(words[:at] + [other, " "] + words[at:]))
        told.append("".join(words[:at] + words[at + 2:]))
        if at > 0:
            told.append("".join(words[:at - 1] + words[at + 1:]))
        told += ["".join(exchanged(words, at, to)) for to in range(0, at, 2)]
    return told


def with_other_lines(text):
    """The text with one line another one, left out, put in, or exchanged with any other one, at every place."""
    lines = text.split("\n")
    told = []
    for at in range(len(lines)):
        told.append("\n".join(lines[:at] + lines[at + 1:]))
        for line in lines + list(OTHER_LINES):
            told.append("\n".join(lines[:at] + [line] + lines[at:]))
            told.append("\n".join(lines[:at] + [line] + lines[at + 1:]))
        told += ["\n".join(exchanged(lines, at, to)) for to in range(at)]
    return told


NUMBER = r"(?:0|-?[1-9][0-9]{0,3})"
PART = f"(?:{NUMBER}|off)"
BLOCK = r"[0-9a-zA-Z+-]+(?:/[0-9a-zA-Z+-]+)*"
FORM = re.compile(
    f"frame((?: {NUMBER}){{4}})\nfloor ({BLOCK})\nshift((?: {NUMBER}){{2}})\npots ([0-9a-zA-Z+-]{{16}})"
    f"((?:\nshape {BLOCK})*)((?:\nmover {PART}(?: {NUMBER}){{4}})*)((?:\nat {NUMBER} [a-z]+(?: {PART})*)*)"
)


def plain_part(word):
    return None if word == "off" else int(word)


def plain_block(word):
    return tuple(tuple(SIGNS.index(sign) for sign in row) for row in word.split("/"))


def plain_read(text):
    """The plan that a text writes, by the form as a whole, or None."""
    match = FORM.fullmatch(text)
    if not match:
        return None
    frame, floor, shift, pots, book, movers, timed = match.groups()
    frame = tuple(plain_part(word) for word in frame.split())
    stand = (
        plain_block(floor), tuple(plain_part(word) for word in shift.split()),
        tuple(plain_block(line.split()[1]) for line in book.split("\n")[1:]),
        tuple(tuple(plain_part(word) for word in line.split()[1:]) for line in movers.split("\n")[1:]),
        plain_block(pots)[0],
    )
    told = []
    for line in timed.split("\n")[1:]:
        at, tick, word, *parts = line.split()
        told.append((int(tick), (word,) + tuple(plain_part(part) for part in parts)))
    if not is_frame(frame) or not is_stand(stand):
        return None
    ticks = [tick for tick, deed in told]
    if ticks != sorted(ticks) or not all(0 <= tick < ticks_of(frame) for tick in ticks):
        return None
    return (frame, stand, told) if all(is_deed(stand, deed) for tick, deed in told) else None
