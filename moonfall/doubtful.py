"""Doubtful brightness: what is bright, and what hangs together, if each cell may be brighter or darker by a slack."""

from moonfall.moreerrors import TooMany
from moonfall.pixels import blobs, bright_cells, cells_around, points_of
from moonfall.scattered import most_scattered


def sure_cells(rows, level, slack):
    """The ascending list of the cells at least as bright as a level, whatever the brightness is."""
    return bright_cells(rows, level + slack)


def maybe_cells(rows, level, slack):
    """The ascending list of the cells at least as bright as a level for some brightness."""
    return bright_cells(rows, level - slack)


def _split(rows, level, slack):
    """The blobs all of whose cells are sure, then the other ones with their sure cells, as two lists."""
    sure = {cell: True for cell in sure_cells(rows, level, slack)}
    whole = []
    doubtful = []
    for blob in blobs(maybe_cells(rows, level, slack)):
        held = [cell for cell in blob if cell in sure]
        if len(held) == len(blob):
            whole.append(blob)
        else:
            doubtful.append((blob, held))
    return whole, doubtful


def sure_blobs(rows, level, slack):
    """The ascending list of the blobs that are there, just as they are, whatever the brightness is."""
    whole, _ = _split(rows, level, slack)
    return whole


def sure_points(rows, level, slack, steps):
    """The ascending tuple of the points that the sure blobs make."""
    return points_of(sure_blobs(rows, level, slack), steps)


def doubtful_blobs(rows, level, slack):
    """The ascending list of all other blobs that there can be when all is as bright as it can be."""
    _, doubtful = _split(rows, level, slack)
    return [blob for blob, _ in doubtful]


def most_spots(rows, level, slack, most):
    """The greatest number of blobs, besides sure ones, that there can be."""
    _, doubtful = _split(rows, level, slack)
    if most == 0 or not all([len(blob) - len(held) < most for blob, held in doubtful]):
        raise TooMany(most)
    return sum([_most_within(blob, held) for blob, held in doubtful])


def _most_within(blob, held):
    """The greatest number of blobs that one doubtful blob, with the sure cells that it holds, can fall into.

    A blob with sure cells is no fewer without its other cells, and one without sure cells is no fewer if a single
    cell of it is left: so there are most when the sure cells are alone, and scattered ones that don't touch them.
    """
    barred = {cell: True for cell in held}
    for cell in held:
        barred.update({near: True for near in cells_around(cell)})
    return len(blobs(held)) + most_scattered([cell for cell in blob if cell not in barred])
