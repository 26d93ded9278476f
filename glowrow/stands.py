"""Stands: all that stands when the beam comes, and the deeds that change it."""

from glowrow.errors import NoDeed
from glowrow.kinds import is_within
from glowrow.shapes import is_ink, is_ink_block, is_shape, is_turn


def is_hue(thing):
    """Tell of anything whether it is a hue."""
    return is_within(thing, 0, 63)


def is_rank(thing):
    """Tell of anything whether it is a mover's rank."""
    return is_within(thing, 0, 3)


def is_place_pair(thing):
    """Tell of anything whether it is a pair of places, as a shift and a mover's x and y are."""
    return isinstance(thing, tuple) and len(thing) == 2 and all([is_within(part, -1000, 1000) for part in thing])


def is_book(thing):
    """Tell of anything whether it is a book of shapes."""
    return isinstance(thing, tuple) and len(thing) <= 8 and all([is_shape(part) for part in thing])


def is_shape_number(book, thing):
    """Tell of anything whether it names a shape of the book, or is None: off."""
    return thing is None or is_within(thing, 0, len(book) - 1)


def is_mover(book, thing):
    """Tell of anything whether it is a mover of the book."""
    if not isinstance(thing, tuple) or len(thing) != 5:
        return False
    shape, x, y, rank, turn = thing
    return is_shape_number(book, shape) and is_place_pair((x, y)) and is_rank(rank) and is_turn(turn)


def are_movers(book, thing):
    """Tell of anything whether it is the movers of a stand with that book."""
    return isinstance(thing, tuple) and len(thing) <= 12 and all([is_mover(book, part) for part in thing])


def are_pots(thing):
    """Tell of anything whether it is a hue for each ink."""
    return isinstance(thing, tuple) and len(thing) == 16 and all([is_hue(part) for part in thing])


def is_stand(thing):
    """Tell of anything whether it is a stand (floor, shift, book, movers, pots)."""
    if not isinstance(thing, tuple) or len(thing) != 5:
        return False
    floor, shift, book, movers, pots = thing
    if not (is_ink_block(floor, 16) and is_place_pair(shift) and are_pots(pots)):
        return False
    return is_book(book) and are_movers(book, movers)


def is_deed(stand, thing):
    """Tell of anything whether it is a deed of the stand."""
    if not isinstance(thing, tuple) or len(thing) < 3:
        return False
    word, parts = thing[0], thing[1:]
    if word == "shift":
        return is_place_pair(parts)
    if word == "pot":
        return len(parts) == 2 and is_ink(parts[0]) and is_hue(parts[1])
    return is_mover_deed(stand, word, parts)


def is_mover_deed(stand, word, parts):
    """Tell whether word and parts, two or more, make a deed that changes one of the stand's movers."""
    floor, shift, book, movers, pots = stand
    if not is_within(parts[0], 0, len(movers) - 1):
        return False
    if word == "move":
        return is_place_pair(parts[1:])
    if len(parts) != 2:
        return False
    if word == "shape":
        return is_shape_number(book, parts[1])
    if word == "rank":
        return is_rank(parts[1])
    return word == "turn" and is_turn(parts[1])


def stand_behind(stand, deed):
    """Tell the stand as it is behind a deed, or refuse with NoDeed."""
    if not is_deed(stand, deed):
        raise NoDeed("that is no deed of the stand")
    floor, shift, book, movers, pots = stand
    word = deed[0]
    if word == "shift":
        return (floor, deed[1:], book, movers, pots)
    if word == "pot":
        return (floor, shift, book, movers, with_part(pots, deed[1], deed[2]))
    number = deed[1]
    mover = mover_behind(movers[number], word, deed[2:])
    return (floor, shift, book, with_part(movers, number, mover), pots)


def mover_behind(mover, word, parts):
    """Tell the mover as it is behind a deed of its own."""
    shape, x, y, rank, turn = mover
    if word == "move":
        return (shape, parts[0], parts[1], rank, turn)
    if word == "shape":
        return (parts[0], x, y, rank, turn)
    if word == "rank":
        return (shape, x, y, parts[0], turn)
    return (shape, x, y, rank, parts[0])


def with_part(things, at, part):
    """Tell a tuple like the given one, but with another part at one place."""
    return things[:at] + (part,) + things[at + 1:]
