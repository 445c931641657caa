"""From brightness to points: what is bright, what hangs together, and the picture that it makes."""

from moonfall.errors import BadPicture
from moonfall.whole import MOST_SIZE, is_between

BRIGHTEST = 1000000
AROUND = ((-1, -1), (-1, 0), (-1, 1), (0, -1), (0, 1), (1, -1), (1, 0), (1, 1))


def bright_cells(rows, level):
    """The ascending list of the cells at least as bright as a level."""
    return sorted([(x, y) for y, row in enumerate(rows) for x, worth in enumerate(row) if worth >= level])


def cells_around(cell):
    """The cells that touch a cell, by a side or by a corner."""
    x, y = cell
    return [(x + right, y + down) for right, down in AROUND]


def blobs(cells):
    """The ascending list of the blobs, ascending tuples: cells that hang together by sides or corners."""
    order = sorted(set(cells))
    left = {cell: True for cell in order}
    found = []
    for cell in order:
        if cell in left:
            found.append(tuple(sorted(_take(cell, left))))
    return found


def _take(cell, left):
    """The cells that hang together with one, taken out of those that are left."""
    del left[cell]
    blob = [cell]
    at = 0
    while at < len(blob):
        around = cells_around(blob[at])
        for near in around:
            if near in left:
                del left[near]
                blob.append(near)
        at += 1
    return blob


def middle(blob):
    """Half the sum of the least and the greatest x, and of y, rounded down."""
    across = [x for x, _ in blob]
    along = [y for _, y in blob]
    return (min(across) + max(across)) // 2, (min(along) + max(along)) // 2


def size_by(many, steps):
    """One more than how many of some steps are at most so many; no more than a size can be."""
    return min(MOST_SIZE, 1 + len([step for step in steps if step <= many]))


def points_of(found, steps):
    """The ascending tuple of the points that some blobs make."""
    return tuple(sorted([(*middle(blob), size_by(len(blob), steps)) for blob in found]))


def picture_of(camera, rows, level, steps):
    """The picture that brightness makes."""
    for number, row in enumerate(rows):
        if not _is_row(row, camera.width):
            raise BadPicture(number)
    if len(rows) != camera.height:
        raise BadPicture(len(rows))
    return points_of(blobs(bright_cells(rows, level)), steps)


def _is_row(thing, width):
    if not isinstance(thing, tuple) or len(thing) != width:
        return False
    return all([is_between(worth, 0, BRIGHTEST) for worth in thing])
