"""Slots: how few of them carry many things, and movers that are handed on from one of a cast to the next."""

from glowrow.frames import begin_of


def slots_for(things, many, rest):
    """Tell a slot for each thing, or a row that more things need than there are slots."""
    needs = [(first, last + rest) for first, last in things]
    row = crowded_row(needs, many)
    if row is None:
        return ("slots", slots_given(needs))
    return ("row", row)


def crowded_row(needs, many):
    """Tell a row that more than so many need, or None."""
    # Nowhere is the crowd greater than on the first row of one of them.
    for row, end in needs:
        if len([1 for first, last in needs if first <= row <= last]) > many:
            return row
    return None


def slots_given(needs):
    """Tell a slot for each, the least that is free when they come in order of their first rows."""
    slots = [0] * len(needs)
    ends = []
    for place in sorted(range(len(needs)), key=lambda at: needs[at]):
        first, last = needs[place]
        slot = free_slot(ends, first)
        if slot == len(ends):
            ends.append(last)
        ends[slot] = last
        slots[place] = slot
    return slots


def free_slot(ends, row):
    """Tell the first slot that nothing needs on this row or later, a new one if need be."""
    for slot, end in enumerate(ends):
        if end < row:
            return slot
    return len(ends)


def cast_for(frame, book, cast, many, rest):
    """Tell movers and timed deeds that show the cast, or a row that more of it need than there are slots."""
    shown = [mover for mover in cast if rows_shown(frame, book, mover) is not None]
    things = [rows_shown(frame, book, mover) for mover in shown]
    told = slots_for(things, many, rest)
    if told[0] == "row":
        return told
    return cast_on_slots(frame, shown, things, told[1])


def cast_on_slots(frame, shown, things, slots):
    """Tell movers and timed deeds that show each mover by its slot, things being the rows of each."""
    firsts = {}
    carried = {}
    timed = []
    for place in sorted(range(len(shown)), key=lambda at: things[at]):
        slot, mover = slots[place], shown[place]
        # The first one of a slot is there from the start: it lies on no rows but its own.
        firsts.setdefault(slot, mover)
        tick = begin_of(frame, things[place][0])
        timed += [(tick, deed) for deed in deeds_between(slot, carried.get(slot, mover), mover)]
        carried[slot] = mover
    return ("cast", tuple([firsts[slot] for slot in sorted(firsts)]), timed)


def rows_shown(frame, book, mover):
    """Tell the first and the last row of the frame that a mover has, or None where it has none."""
    wide, high, gap, most = frame
    shape, x, y, rank, turn = mover
    first = max(y, 0)
    last = min(y + len(book[shape]), high) - 1
    return (first, last) if first <= last else None


def deeds_between(number, mover, other):
    """Tell the deeds that make another mover of the one with this number."""
    shape, x, y, rank, turn = other
    deeds = []
    if mover[0] != shape:
        deeds.append(("shape", number, shape))
    if mover[1:3] != (x, y):
        deeds.append(("move", number, x, y))
    if mover[3] != rank:
        deeds.append(("rank", number, rank))
    if mover[4] != turn:
        deeds.append(("turn", number, turn))
    return deeds
