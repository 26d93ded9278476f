"""Films: movers that go to and fro on paths from frame to frame, however far, and where two of them meet."""

from glowrow.frames import is_frame
from glowrow.kinds import is_within
from glowrow.stands import is_stand


def is_path(thing):
    """Tell of anything whether it is a path (low, high, at, step)."""
    if not isinstance(thing, tuple) or len(thing) != 4:
        return False
    low, high, at, step = thing
    return (
        is_within(low, -900, 900)
        and is_within(high, low, low + 12)
        and is_within(at, low, high)
        and is_within(step, -12, 12)
    )


def is_pair_for(mover, thing):
    """Tell of anything whether it is None, or a pair of paths that are at the mover's x and y."""
    if thing is None:
        return True
    if not isinstance(thing, tuple) or len(thing) != 2 or not all([is_path(part) for part in thing]):
        return False
    return mover[1:3] == places_of(thing)


def is_film(thing):
    """Tell of anything whether it is a film (frame, stand, paths)."""
    if not isinstance(thing, tuple) or len(thing) != 3:
        return False
    frame, stand, paths = thing
    if not (is_frame(frame) and is_stand(stand) and isinstance(paths, tuple)):
        return False
    movers = stand[3]
    if len(paths) != len(movers):
        return False
    return all([is_pair_for(mover, pair) for mover, pair in zip(movers, paths)])


def places_of(pair):
    """Tell where the two paths of a pair are at."""
    across, down = pair
    return (across[2], down[2])


def path_behind(path):
    """Tell the path one frame on."""
    low, high, at, step = path
    if low <= at + step <= high:
        return (low, high, at + step, step)
    if low <= at - step <= high:
        return (low, high, at - step, -step)
    return (low, high, at, -step)


def run_of(path):
    """Tell a path from frame to frame up to where it comes again, and the place of the one that comes then."""
    # There are a few dozen ways only in which a path can be, so it comes again soon.
    places = {}
    while path not in places:
        places[path] = len(places)
        path = path_behind(path)
    return (list(places), places[path])


def path_at(path, many):
    """Tell the path so many frames on."""
    run, ahead = run_of(path)
    if many < len(run):
        return run[many]
    return run[ahead + (many - ahead) % (len(run) - ahead)]


def film_at(film, many):
    """Tell the film so many frames on."""
    frame, stand, paths = film
    floor, shift, book, movers, pots = stand
    gone = tuple([pair_at(pair, many) for pair in paths])
    placed = tuple([mover_on(mover, pair) for mover, pair in zip(movers, gone)])
    return (frame, (floor, shift, book, placed, pots), gone)


def pair_at(pair, many):
    """Tell a mover's pair of paths, or None, so many frames on."""
    if pair is None:
        return None
    across, down = pair
    return (path_at(across, many), path_at(down, many))


def mover_on(mover, pair):
    """Tell the mover where its paths are at, or where it is when it has none."""
    if pair is None:
        return mover
    return mover[:1] + places_of(pair) + mover[3:]


def round_of(film):
    """Tell the round of a film: a pair (ahead, length)."""
    frame, stand, paths = film
    return round_of_paths([path for pair in paths if pair is not None for path in pair])


def round_of_paths(paths):
    """Tell when all these paths first are as they come again together, and after how many frames."""
    ahead = 0
    length = 1
    for path in paths:
        run, first = run_of(path)
        ahead = max(ahead, first)
        length = least_common(length, len(run) - first)
    return (ahead, length)


def least_common(one, other):
    """Tell the least number that both, greater than 0, go into."""
    left, right = one, other
    while right > 0:
        left, right = right, left % right
    return one // left * other


def meeting(film, one, other):
    """Tell how many frames on two movers first meet, or None where they never do."""
    size, other_size = box_size(film, one), box_size(film, other)
    if size is None or other_size is None:
        return None
    going, other_going = paths_of(film, one), paths_of(film, other)
    # Four paths come round within some ten thousand frames, so each of these may be looked at.
    ahead, length = round_of_paths(list(going) + list(other_going))
    for many in range(ahead + length):
        if boxes_meet(places_of(going), size, places_of(other_going), other_size):
            return many
        going, other_going = pair_behind(going), pair_behind(other_going)
    return None


def box_size(film, number):
    """Tell how wide and how high the box of a mover is, or None where it is off."""
    frame, (floor, shift, book, movers, pots), paths = film
    shape = movers[number][0]
    if shape is None:
        return None
    return (len(book[shape][0]), len(book[shape]))


def paths_of(film, number):
    """Tell the pair of paths of a mover, of one without any such as stay where it is."""
    frame, (floor, shift, book, movers, pots), paths = film
    if paths[number] is not None:
        return paths[number]
    shape, x, y, rank, turn = movers[number]
    return ((x, x, x, 0), (y, y, y, 0))


def pair_behind(pair):
    """Tell a pair of paths one frame on."""
    across, down = pair
    return (path_behind(across), path_behind(down))


def boxes_meet(place, size, other_place, other_size):
    """Tell whether two boxes, by their places and sizes, have a spot in common."""
    return all([
        at < other_at + other_long and other_at < at + long
        for at, long, other_at, other_long in zip(place, size, other_place, other_size)
    ])
