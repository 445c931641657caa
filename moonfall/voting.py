"""Reading by votes: each point of a picture votes for the standings at which it can be of a crater."""

from moonfall.charts import Chart
from moonfall.fitting import fits_by
from moonfall.grounds import turned


def votes_for(sky, picture, turn):
    """How many points of a picture can be of some crater, for each shift of the area for which any can."""
    votes = {}
    for point in picture:
        for shift in _shifts_of(sky, point, turn):
            votes[shift] = votes.get(shift, 0) + 1
    return votes


def _shifts_of(sky, point, turn):
    """The unlike shifts of the area at which a point can be of some crater."""
    low_a, high_a, low_b, high_b = sky.area
    error = sky.camera.error
    places = [turned(x, y, turn) for x, y, size in sky.ground.craters if size == point[2]]
    shifts = []
    # Each crater lets a square of shifts. Squares come by ascending a, so behind each one all shifts of its rows
    # up to its end are told: begin tells where a row goes on.
    begin = {}
    for x, y in sorted(places, reverse=True):
        a, b = point[0] - x, point[1] - y
        end = min(high_a, a + error) + 1
        for row in range(max(low_b, b - error), min(high_b, b + error) + 1):
            start = max(low_a, a - error, begin.get(row, low_a))
            shifts.extend([(told, row) for told in range(start, end)])
            begin[row] = end
    return shifts


def voted_reading(sky, picture):
    """The reading of a picture, and at how many standings it was looked."""
    sky.camera.check_picture(picture)
    chart = Chart(sky)
    looked_at = _promising(sky, picture)
    return tuple([standing for standing in looked_at if fits_by(chart, picture, standing)]), len(looked_at)


def _promising(sky, picture):
    """The standings, ascending, for which there are votes enough for the picture to fit."""
    least = len(picture) - sky.camera.false
    if least <= 0:
        return sky.standings()
    if least > len(sky.ground.craters):
        return ()
    standings = []
    for turn in sky.turns:
        votes = votes_for(sky, picture, turn)
        shifts = sorted([shift for shift in votes if votes[shift] >= least])
        standings.extend([(turn, a, b) for a, b in shifts])
    return tuple(standings)
