"""Tuples within tuples: every place in them, and the same tuple with another thing there."""


def paths(thing):
    """The paths to all that stands in a thing, itself (the path ()) among it."""
    told = [()]
    if isinstance(thing, tuple):
        for at, part in enumerate(thing):
            told += [(at,) + path for path in paths(part)]
    return told


def part_at(thing, path):
    for at in path:
        thing = thing[at]
    return thing


def with_part_at(thing, path, part):
    if not path:
        return part
    at = path[0]
    return thing[:at] + (with_part_at(thing[at], path[1:], part),) + thing[at + 1:]
