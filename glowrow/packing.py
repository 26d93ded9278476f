"""Packings: pictures written as briefly as may be, and read back."""

from glowrow.errors import NoText
from glowrow.texts import SIGNS, picture_text, read_signs, signs_of

MOST_COUNT = 63


def packed(picture):
    """Tell the packing of a picture: of all that have the fewest signs the first."""
    wide = len(picture[0])
    spots = picture_text(picture).replace("\n", "")
    # tails[at] is the first of the briefest texts that lay all spots from there on.
    tails = [""] * (len(spots) + 1)
    for at in reversed(range(len(spots))):
        tails[at] = best_tail(parts_at(spots, wide, at), tails, at)
    return signs_of([wide, len(picture)]) + tails[0]


def best_tail(parts, tails, at):
    """Tell the first of the briefest texts that begin with one of these parts."""
    # Whichever part goes first, the best that can follow it is the best tail from where it ends.
    fewest = min([len(text) + len(tails[at + many]) for text, many in parts])
    return min([
        text + tails[at + many] for text, many in parts if len(text) + len(tails[at + many]) == fewest
    ])


def parts_at(spots, wide, at):
    """Tell all parts that may lay spots from this one on: pairs (text, how many spots it lays)."""
    told = [
        ("!" + SIGNS[many] + spots[at:at + many], many) for many in range(1, min(MOST_COUNT, len(spots) - at) + 1)
    ]
    told += [("*" + SIGNS[many] + spots[at], many) for many in range(1, many_alike(spots, at) + 1)]
    told += [("^" + SIGNS[many], many) for many in range(1, many_as_above(spots, wide, at) + 1)]
    return told


def many_alike(spots, at):
    """Tell how many spots from this one on are like it, at most as many as a count tells."""
    rest = spots[at:at + MOST_COUNT]
    return len(rest) - len(rest.lstrip(spots[at]))


def many_as_above(spots, wide, at):
    """Tell how many spots from this one on are as the one right above each, at most as many as a count tells."""
    if at < wide:
        return 0
    many = 0
    while many < MOST_COUNT and at + many < len(spots) and spots[at + many] == spots[at + many - wide]:
        many += 1
    return many


def unpacked(text):
    """Tell the picture that a packing writes, or refuse with NoText."""
    if not isinstance(text, str):
        raise NoText("that is no text")
    wide, high = read_size(text[:2])
    hues = []
    at = 2
    while at < len(text):
        at = read_part(text, at, wide, hues)
    if len(hues) != wide * high:
        raise NoText("the parts lay more or fewer spots than there are")
    return [hues[row * wide:(row + 1) * wide] for row in range(high)]


def read_size(text):
    """Read how wide and how high a picture is, or refuse with NoText."""
    numbers = read_signs(text)
    if len(numbers) != 2 or not all([1 <= number <= 40 for number in numbers]):
        raise NoText("a picture has 1 to 40 rows of 1 to 40 spots")
    return numbers


def read_part(text, at, wide, hues):
    """Lay the spots of the part that begins at this place, and tell where it ends, or refuse with NoText."""
    word = text[at]
    many = read_count(text[at + 1:at + 2])
    begin = at + 2
    if word == "!":
        hues.extend(exactly(read_signs(text[begin:begin + many]), many))
        return begin + many
    if word == "*":
        hues.extend(exactly(read_signs(text[begin:begin + 1]), 1) * many)
        return begin + 1
    if word != "^" or len(hues) < wide:
        raise NoText("there is no such part, or nothing above its spots")
    for step in range(many):
        hues.append(hues[-wide])
    return begin


def read_count(text):
    """Read a part's count, or refuse with NoText."""
    number = exactly(read_signs(text), 1)[0]
    if number == 0:
        raise NoText("a count is 1 or more")
    return number


def exactly(numbers, many):
    """Tell these numbers, or refuse with NoText where they are not so many."""
    if len(numbers) != many:
        raise NoText("the text ends amid a part")
    return numbers
