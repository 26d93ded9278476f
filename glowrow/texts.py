"""Texts: pictures and plans written down, and read back."""

from glowrow.errors import NoText
from glowrow.frames import is_frame
from glowrow.laying import ticks_hold
from glowrow.stands import is_deed, is_stand

FIGURES = "0123456789"
SIGNS = "0123456789abcdefghijklmnopqrstuvwxyzABCDEFGHIJKLMNOPQRSTUVWXYZ+-"
LINE_WORDS = ("frame", "floor", "shift", "pots", "shape", "mover", "at")


def signs_of(numbers):
    """Write a row of hues or inks."""
    return "".join([SIGNS[number] for number in numbers])


def read_signs(text):
    """Read a row of hues or inks, or refuse with NoText."""
    numbers = [SIGNS.find(sign) for sign in text]
    if -1 in numbers:
        raise NoText("there is a sign that writes no number")
    return numbers


def picture_text(picture):
    """Write a picture."""
    return "\n".join([signs_of(row) for row in picture])


def read_picture(text):
    """Read a picture, or refuse with NoText."""
    if not isinstance(text, str):
        raise NoText("that is no text")
    picture = [read_signs(line) for line in text.split("\n")]
    wide = len(picture[0])
    if not (1 <= wide <= 40 and len(picture) <= 40):
        raise NoText("a picture has 1 to 40 rows of 1 to 40 spots")
    if any([len(row) != wide for row in picture]):
        raise NoText("the rows are not of one length")
    return picture


def part_text(part):
    """Write a word, a number or None of a plan."""
    return "off" if part is None else str(part)


def line_text(word, parts):
    """Write a line of a plan."""
    return " ".join([word] + [part_text(part) for part in parts])


def block_text(block):
    """Write the rows of a floor or a shape."""
    return "/".join([signs_of(row) for row in block])


def plan_text(frame, stand, timed):
    """Write a plan."""
    floor, shift, book, movers, pots = stand
    lines = [
        line_text("frame", frame),
        line_text("floor", [block_text(floor)]),
        line_text("shift", shift),
        line_text("pots", [signs_of(pots)]),
    ]
    lines += [line_text("shape", [block_text(shape)]) for shape in book]
    lines += [line_text("mover", mover) for mover in movers]
    lines += [line_text("at", (tick,) + deed) for tick, deed in timed]
    return "\n".join(lines)


def read_plan(text):
    """Read a plan: a tuple (frame, stand, timed deeds), or refuse with NoText."""
    if not isinstance(text, str):
        raise NoText("that is no text")
    lines = lines_by_word(text)
    frame = read_parts(only(lines["frame"]))
    stand = read_stand(lines)
    timed = [read_timed(words) for words in lines["at"]]
    if not (is_frame(frame) and is_stand(stand) and ticks_hold(frame, timed)):
        raise NoText("that writes no plan")
    # No deed changes how many movers and shapes there are, so what is a deed at first stays one.
    if not all([is_deed(stand, deed) for tick, deed in timed]):
        raise NoText("there is no such deed")
    # Written anew it shows whatever stands otherwise, such as lines in another order.
    if plan_text(frame, stand, timed) != text:
        raise NoText("the plan is not so written")
    return (frame, stand, timed)


def lines_by_word(text):
    """Tell for each word that a line begins with the other words of its lines, or refuse with NoText."""
    lines = {word: [] for word in LINE_WORDS}
    for line in text.split("\n"):
        words = line.split(" ")
        if words[0] not in lines:
            raise NoText("a line begins with another word")
        lines[words[0]].append(words[1:])
    return lines


def read_stand(lines):
    """Read what may be a stand, or refuse with NoText."""
    floor = read_block(only(lines["floor"]))
    shift = read_parts(only(lines["shift"]))
    book = tuple([read_block(words) for words in lines["shape"]])
    movers = tuple([read_parts(words) for words in lines["mover"]])
    pots = tuple(read_signs(only(only(lines["pots"]))))
    return (floor, shift, book, movers, pots)


def only(things):
    """Tell the one thing that is there, or refuse with NoText."""
    if len(things) != 1:
        raise NoText("there is one too many, or one too few")
    return things[0]


def read_block(words):
    """Read the rows of a floor or a shape, or refuse with NoText."""
    return tuple([tuple(read_signs(row)) for row in only(words).split("/")])


def read_parts(words):
    """Read numbers and Nones, or refuse with NoText."""
    return tuple([None if word == "off" else read_number(word) for word in words])


def read_number(word):
    """Read a number, or refuse with NoText."""
    figures = word[1:] if word.startswith("-") else word
    # No number of a plan has more than four figures, and Python reads none of several thousand.
    if not 1 <= len(figures) <= 4 or any([figure not in FIGURES for figure in figures]):
        raise NoText("that writes no number")
    number = int(word)
    if str(number) != word:
        raise NoText("the number is written otherwise")
    return number


def read_timed(words):
    """Read what may be a timed deed, or refuse with NoText."""
    if len(words) < 2:
        raise NoText("a timed deed has a tick and a word")
    return (read_number(words[0]), (words[1],) + read_parts(words[2:]))
