"""The document's points 29 to 31 once more, reckoned step by step, for tests to compare with."""


def plain_step(path):
    """A path one frame on, by point 29."""
    low, high, at, step = path
    if at + step in range(low, high + 1):
        return (low, high, at + step, step)
    step = -step
    return (low, high, at + step if at + step in range(low, high + 1) else at, step)


def plain_next(film):
    """A film one frame on."""
    frame, (floor, shift, book, movers, pots), pairs = film
    gone = tuple(None if pair is None else (plain_step(pair[0]), plain_step(pair[1])) for pair in pairs)
    return placed((frame, (floor, shift, book, movers, pots), gone))


def placed(film):
    """The film with its movers where their paths are at."""
    frame, (floor, shift, book, movers, pots), pairs = film
    told = []
    for (shape, x, y, rank, turn), pair in zip(movers, pairs):
        told.append((shape, x, y, rank, turn) if pair is None else (shape, pair[0][2], pair[1][2], rank, turn))
    return (frame, (floor, shift, book, tuple(told), pots), pairs)


def plain_far(path, many):
    """A path many frames on: the steps of all ways in which it can be, made twice as long again and again."""
    low, high, at, step = path
    ways = [(low, high, x, way) for x in range(low, high + 1) for way in {step, -step}]
    jump = {way: plain_step(way) for way in ways}
    while many:
        if many % 2:
            path = jump[path]
        jump = {way: jump[jump[way]] for way in ways}
        many //= 2
    return path


def plain_film_far(film, many):
    frame, stand, pairs = film
    return placed((frame, stand, tuple(
        None if pair is None else (plain_far(pair[0], many), plain_far(pair[1], many)) for pair in pairs
    )))
