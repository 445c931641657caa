"""Scattered cells: of which no two touch, by a side or by a corner."""

from moonfall.masks import bits, mask_of
from moonfall.pixels import blobs, cells_around


def most_scattered(cells):
    """The greatest number of scattered cells among some unlike cells."""
    left = {cell: True for cell in cells}
    many = _take_plain_ones(left, sorted(left))
    return many + sum([_most_together(_along_shorter(blob)) for blob in blobs(list(left))])


def _take_plain_ones(left, queue):
    """Drop cells of those that are left as long as others are as good; take those that nothing touches, and count.

    If all that touches a cell touches another one, too, the other one bars no less: it need not be taken.
    """
    many = 0
    while queue:
        cell = queue.pop()
        if cell not in left:
            continue
        near = _touching(cell, left)
        if not near:
            many += 1
            del left[cell]
            continue
        for other in near:
            if _bars_no_less(other, cell, left):
                del left[other]
                queue.append(cell)
                queue.extend(_touching(other, left))
                break
    return many


def _touching(cell, left):
    return [near for near in cells_around(cell) if near in left]


def _bars_no_less(other, cell, left):
    """Whether all that touches a cell is or touches the other one."""
    return all([max(abs(near[0] - other[0]), abs(near[1] - other[1])) <= 1 for near in _touching(cell, left)])


def _along_shorter(blob):
    """The cells of a blob, ascending, its shorter way being the second one."""
    wide = max([x for x, _ in blob]) - min([x for x, _ in blob])
    high = max([y for _, y in blob]) - min([y for _, y in blob])
    return list(blob) if high <= wide else sorted([(y, x) for x, y in blob])


def _most_together(cells):
    """The greatest number of scattered cells among ascending ones: by what was taken of those that still matter."""
    number_of = {cell: number for number, cell in enumerate(cells)}
    links = [mask_of([number_of[near] for near in _touching(cell, number_of)]) for cell in cells]
    last_of = [max([number, *bits(mask)]) for number, mask in enumerate(links)]
    best = {0: 0}
    mattering = 0
    for number, mask in enumerate(links):
        bit = 1 << number
        mattering |= bit
        mattering = mask_of([one for one in bits(mattering) if last_of[one] > number])
        further = {}
        for taken, many in best.items():
            _note(further, taken & mattering, many)
            if not taken & mask:
                _note(further, (taken | bit) & mattering, many + 1)
        # Who has taken something that matters must be ahead of who has not.
        least = further.get(0, -1)
        best = {taken: many for taken, many in further.items() if many > least or not taken}
    return max(best.values())


def _note(further, taken, many):
    if further.get(taken, -1) < many:
        further[taken] = many
