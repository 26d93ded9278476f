"""Shapes: small pictures of inks, and their strips as they stand turned."""

from glowrow.kinds import is_within


def is_ink(thing):
    """Tell of anything whether it is an ink."""
    return is_within(thing, 0, 15)


def is_ink_row(thing):
    """Tell of anything whether it is a tuple of inks."""
    return isinstance(thing, tuple) and all([is_ink(part) for part in thing])


def is_ink_block(thing, most):
    """Tell of anything whether it is 1 to most rows of inks, all of one length from 1 to most."""
    if not isinstance(thing, tuple) or not 1 <= len(thing) <= most:
        return False
    if not all([is_ink_row(row) for row in thing]):
        return False
    length = len(thing[0])
    return 1 <= length <= most and all([len(row) == length for row in thing])


def is_shape(thing):
    """Tell of anything whether it is a shape."""
    return is_ink_block(thing, 8)


def is_turn(thing):
    """Tell of anything whether it is a turn."""
    return is_within(thing, 0, 3)


def strip_of(shape, turn, row):
    """Tell the inks of a row of the shape as it stands turned, () where it has no such row."""
    if row < 0 or row >= len(shape):
        return ()
    strip = shape[len(shape) - 1 - row] if turn in (2, 3) else shape[row]
    return strip[::-1] if turn in (1, 3) else strip
