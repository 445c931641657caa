"""Putting rows to things, one to one.

Rows are a dict from numbers to masks: a mask has a bit for each thing to which the row can be put. A holder is
a dict from things to the rows that are put to them.
"""

from moonfall.masks import bits, count_bits, mask_of


def seat(row, rows, holder):
    """Put one more row to a thing, moving others along; False, and nothing, if there is no way.

    Only who is among the rows is moved along: who holds a thing and is none of them loses it.
    """
    came_from = {}
    had = {}
    queue = [row]
    at = 0
    seen = 0
    while at < len(queue):
        fresh = rows[queue[at]] & ~seen
        seen |= fresh
        for thing in bits(fresh):
            came_from[thing] = queue[at]
            owner = holder.get(thing)
            if owner is None or owner not in rows:
                _hand_on(thing, holder, came_from, had)
                return True
            had[owner] = thing
            queue.append(owner)
        at += 1
    return False


def _hand_on(thing, holder, came_from, had):
    """Give a thing to the row that came upon it, that row's thing to the one ahead of it, and so on."""
    while thing is not None:
        row = came_from[thing]
        holder[thing] = row
        thing = had.get(row)


def seat_all(rows, order, holder):
    """Seat as many of some rows as can be; the list of those that are left out."""
    return [row for row in order if not seat(row, rows, holder)]


def _seat_plainly(masks):
    """Seat masks one by one without moving any along: the holder, and the list of those that found nothing."""
    holder = {}
    waiting = []
    taken = 0
    for row, mask in enumerate(masks):
        free = mask & ~taken
        if free:
            low = free & -free
            taken |= low
            holder[low.bit_length() - 1] = row
        else:
            waiting.append(row)
    return holder, waiting


def lacks_more(masks, spare):
    """Whether more than so many of a list of masks are left out, however they are put to things."""
    if masks.count(0) > spare:
        return True
    holder, waiting = _seat_plainly(masks)
    if len(waiting) <= spare:
        return False
    rows = dict(enumerate(masks))
    left_out = 0
    for row in waiting:
        if not seat(row, rows, holder):
            left_out += 1
            if left_out > spare:
                return True
    return False


def shortage(masks):
    """How many of a list of masks are left out at the least."""
    holder, waiting = _seat_plainly(masks)
    return len(seat_all(dict(enumerate(masks)), waiting, holder))


def reached(starts, rows, holder):
    """The rows met from some rows on, from rows to things and from things to their holders, ascending."""
    met = {row: True for row in starts}
    queue = list(starts)
    seen = 0
    while queue:
        fresh = rows[queue.pop()] & ~seen
        seen |= fresh
        for thing in bits(fresh):
            owner = holder[thing]
            if owner not in met:
                met[owner] = True
                queue.append(owner)
    return sorted(met)


def is_short(rows, numbers, spare):
    """Whether some rows are more than so many more than all things to which any of them can be put."""
    things = 0
    for number in numbers:
        things |= rows[number]
    return len(numbers) - count_bits(things) > spare


def short_lot(rows, spare):
    """The tuple of some such rows; None if there are none."""
    holder = {}
    left_out = seat_all(rows, list(rows), holder)
    if len(left_out) <= spare:
        return None
    # All that is met is held by who is met, but for those that are left out: so it is short by just as many.
    return tuple(reached(left_out, rows, holder))


def turned_about(masks, things):
    """For each of some things the mask of the rows that can be put to it."""
    return {thing: mask_of([row for row, mask in enumerate(masks) if mask >> thing & 1]) for thing in things}


def can_still_hold(masks, things):
    """How many of a list of masks are left out, and the things (a mask of them) that one more row could be put to.

    These are the things that nobody holds, or whose holder can be moved along until such a thing is met.
    """
    rows = dict(enumerate(masks))
    holder, waiting = _seat_plainly(masks)
    left_out = seat_all(rows, waiting, holder)
    still = things & ~mask_of(list(holder))
    owners = [(1 << thing, rows[row]) for thing, row in holder.items()]
    is_more = True
    while is_more:
        found = [bit for bit, mask in owners if mask & still and not bit & still]
        for bit in found:
            still |= bit
        is_more = len(found) > 0
    return len(left_out), still
