"""Rims: circles of cells, the votes for where they are, and which of them others can't feign."""

from math import isqrt


def rim(radius):
    """The ascending list of the cells of the rim of a radius about (0, 0)."""
    if radius == 0:
        return [(0, 0)]
    inner = radius * radius - radius
    outer = radius * radius + radius
    cells = []
    for x in range(-radius, radius + 1):
        high = isqrt(outer - x * x)
        low = isqrt(inner - x * x) + 1 if x * x <= inner else 0
        cells.extend([(x, y) for y in range(-high, high + 1) if abs(y) >= low])
    return cells


def radius_of(x, y):
    """The radius of the one rim about (0, 0) that has a cell."""
    square = x * x + y * y
    radius = isqrt(square)
    return radius if square <= radius * radius + radius else radius + 1


def votes(cells, radii):
    """For each (x, y, radius) on whose rim any of the cells is, how many unlike ones are."""
    unlike = sorted(set(cells))
    found = {}
    for radius in sorted(set(radii)):
        for right, down in rim(radius):
            for x, y in unlike:
                key = (x - right, y - down, radius)
                found[key] = found.get(key, 0) + 1
    return found


def rims_in(cells, radii, missing):
    """The ascending tuple of the (x, y, radius) whose rims lack at most so many of their cells."""
    least = {radius: len(rim(radius)) - missing for radius in radii}
    found = votes(cells, radii)
    return tuple(sorted([key for key in found if found[key] >= least[key[2]]]))


def shared_cells(one, other):
    """How many cells two rims (x, y, radius) have in common."""
    small, great = sorted([one, other], key=_by_radius)
    right, down = small[0] - great[0], small[1] - great[1]
    return len([1 for x, y in rim(small[2]) if radius_of(x + right, y + down) == great[2]])


def _by_radius(circle):
    return circle[2]


def is_barred(one, others, missing):
    """Whether some other rims, all their cells being bright, can't make one be told."""
    return sum([shared_cells(one, other) for other in others]) < len(rim(one[2])) - missing
