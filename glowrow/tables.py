"""Tables: the fewest changes of pots that make wished hues, or the rows that are too crowded for them."""

from glowrow.errors import Clash
from glowrow.frames import begin_of


def hues_by_ink(wishes):
    """Tell for each wished ink the hues by rows, or refuse with Clash."""
    told = {}
    for row, ink, hue in wishes:
        hues = told.setdefault(ink, {})
        if hues.setdefault(row, hue) != hue:
            raise Clash(f"ink {ink} shall have two hues on row {row}")
    return told


def windows(pots, wishes):
    """Tell the rows within which changes must be: tuples (first row, last row, ink, hue), or refuse with Clash."""
    told = []
    for ink, hues in hues_by_ink(wishes).items():
        first = 0
        hue = pots[ink]
        for row in sorted(hues):
            if hues[row] != hue:
                told.append((first, row, ink, hues[row]))
            first = row + 1
            hue = hues[row]
    return sorted(told)


def table_for(high, room, pots, wishes):
    """Tell a table that makes the wishes, or a crowd of windows, or refuse with Clash."""
    # All windows end with a wish, so they lie below high by themselves.
    needed = windows(pots, wishes)
    table = table_within(room, needed)
    if table is None:
        return crowd_in(room, needed)
    return ("table", table)


def table_within(room, needed):
    """Tell a table with one change in each window, or None where there is none."""
    # To serve those first that end first never spoils what could be done otherwise.
    table = []
    waiting = needed
    row = 0
    while waiting:
        begun = sorted([window for window in waiting if window[0] <= row], key=lambda window: window[1])
        left = begun[room:]
        if any([window[1] <= row for window in left]):
            return None
        table += [(row, ink, hue) for first, last, ink, hue in begun[:room]]
        waiting = left + [window for window in waiting if window[0] > row]
        row += 1
    return table


def crowd_in(room, needed):
    """Tell a stretch of rows within which more windows lie than changes fit; None where there is none."""
    # A stretch that is crowded stays so when it is cut to where its windows begin and end.
    for first in sorted({window[0] for window in needed}):
        for last in sorted({window[1] for window in needed}):
            within = [window for window in needed if first <= window[0] and window[1] <= last]
            if first <= last and len(within) > room * (last - first + 1):
                return ("crowd", first, last, len(within))
    return None


def timed_table(frame, table):
    """Tell a table as timed deeds of a frame."""
    return [(begin_of(frame, row), ("pot", ink, hue)) for row, ink, hue in table]
