"""Readings: all standings that a picture fits; and how near standings are."""

from moonfall.charts import Chart
from moonfall.fitting import fits_by
from moonfall.voting import voted_reading


def plain_reading(sky, picture):
    """All standings of the sky that a picture fits, by looking at each."""
    sky.camera.check_picture(picture)
    chart = Chart(sky)
    return tuple([standing for standing in sky.standings() if fits_by(chart, picture, standing)])


def reading(sky, picture):
    """All standings of the sky that a picture fits."""
    found, _ = voted_reading(sky, picture)
    return found


def is_near(one, other, reach):
    """Whether two standings have one turn, and shifts that differ by at most the reach."""
    return one[0] == other[0] and abs(one[1] - other[1]) <= reach and abs(one[2] - other[2]) <= reach


def spread(standings):
    """The least reach within which all of some standings are near one another; None if none is."""
    if not standings:
        return 0
    first = standings[0][0]
    if not all([turn == first for turn, _, _ in standings]):
        return None
    return max([max(shifts) - min(shifts) for shifts in ([a for _, a, _ in standings], [b for _, _, b in standings])])
