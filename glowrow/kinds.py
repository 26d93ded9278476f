"""What the other files ask of any thing: whether it is a whole number, and within which bounds."""


def is_whole(thing):
    """Tell whether a thing is a whole number."""
    # Python counts True and False among its ints; the document doesn't.
    return isinstance(thing, int) and not isinstance(thing, bool)


def is_within(thing, low, high):
    """Tell whether a thing is a whole number from low to high."""
    return is_whole(thing) and low <= thing <= high
