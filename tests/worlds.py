"""Frames, stands and deeds of many kinds, drawn from a random source that a test starts with a number of its own."""


def some_frame(rng, most_wide=9, most_high=9):
    wide, high = rng.randint(1, most_wide), rng.randint(1, most_high)
    return (wide, high, rng.choice((0, 0, 1, 2, 5)), rng.choice((0, 1, 2, 3, 12)))


def some_block(rng, high, wide, clear):
    """Rows of inks, of which about one in so many is clear."""
    return tuple(
        tuple(0 if rng.randrange(clear) == 0 else rng.randint(1, 15) for spot in range(wide)) for row in range(high)
    )


def some_place(rng, reach):
    """Mostly about the picture, now and then far off."""
    if rng.randrange(12) == 0:
        return rng.choice((-1000, -999, 999, 1000, -50, 60))
    return rng.randint(-4, reach)


def some_mover(rng, book):
    shape = None if not book or rng.randrange(8) == 0 else rng.randrange(len(book))
    return (shape, some_place(rng, 8), some_place(rng, 8), rng.randint(0, 3), rng.randint(0, 3))


def some_stand(rng, most_movers=6):
    floor = some_block(rng, rng.randint(1, 4), rng.randint(1, 5), rng.choice((1, 2, 2, 9)))
    shift = (some_place(rng, 5), some_place(rng, 5))
    book = tuple(
        some_block(rng, rng.randint(1, 4), rng.randint(1, 4), rng.choice((2, 3, 9))) for k in range(rng.randint(0, 4))
    )
    movers = tuple(some_mover(rng, book) for k in range(rng.randint(0, most_movers)))
    pots = tuple(rng.randint(0, 63) for k in range(16))
    return (floor, shift, book, movers, pots)


def some_deed(rng, stand):
    """A deed of the stand."""
    book, movers = stand[2], stand[3]
    word = rng.choice(("shift", "move", "move", "shape", "rank", "turn", "pot", "pot"))
    if word == "shift":
        return (word, some_place(rng, 5), some_place(rng, 5))
    if word == "pot" or not movers:
        return ("pot", rng.randint(0, 15), rng.randint(0, 63))
    i = rng.randrange(len(movers))
    if word == "move":
        return (word, i, some_place(rng, 8), some_place(rng, 8))
    if word == "shape":
        return (word, i, some_mover(rng, book)[0])
    return (word, i, rng.randint(0, 3))


def no_deed(rng, stand):
    """What is no deed of the stand."""
    many = len(stand[3])
    return rng.choice((
        None, (), [], 5, "pot", ("pot",), ("pot", 16, 0), ("pot", 0, 64), ["pot", 0, 0], ("pots", 0, 0), ("shift", 0),
        ("shift", 1001, 0), ("move", many, 0, 0), ("move", -1, 0, 0), ("rank", many, 0), ("turn", 0, 4),
        ("shape", 0, len(stand[2])), ("pot", True, 0),
    ))


def some_timed(rng, frame, stand, many):
    """So many timed deeds, now and then several of one tick."""
    last = frame[1] * (frame[0] + frame[2]) - 1
    ticks = sorted(rng.choice((0, last, rng.randint(0, last), rng.randint(0, last))) for k in range(many))
    return [(tick, some_deed(rng, stand)) for tick in ticks]


def some_line(rng, frame, stand, many):
    """A line, for a count of lines, whose waits and skips lie mostly about the frame's ticks."""
    word = rng.choice(("wait", "skip", "do", "do", "do", "to"))
    if word == "do":
        return (word, some_deed(rng, stand))
    if word == "to":
        return (word, rng.randrange(many))
    if rng.randrange(6) == 0:
        return (word, rng.randint(0, 60), rng.randint(0, 60))
    return (word, rng.randrange(frame[1] + 1), rng.randrange(frame[0] + frame[2] + 1))


def some_score(rng, frame, stand, many):
    """A score of so many lines."""
    return [some_line(rng, frame, stand, many) for k in range(many)]


def some_path(rng, near=False):
    """A path, near the picture or anywhere."""
    low = rng.randint(-6, 12) if near else rng.choice((-900, 900, rng.randint(-900, 900)))
    high = low + rng.choice((0, 1, 2, 12, rng.randint(0, 12)))
    return (low, high, rng.randint(low, high), rng.choice((0, 1, -1, 12, -12, rng.randint(-12, 12))))


def some_film(rng, most_movers=6, near=True):
    """A film in which some movers have paths."""
    frame, (floor, shift, book, movers, pots) = some_frame(rng), some_stand(rng, most_movers)
    paths = tuple(rng.choice((None, True, True)) and (some_path(rng, near), some_path(rng, near)) for mover in movers)
    placed = []
    for mover, pair in zip(movers, paths):
        placed.append(mover if pair is None else mover[:1] + (pair[0][2], pair[1][2]) + mover[3:])
    return (frame, (floor, shift, book, tuple(placed), pots), paths)
