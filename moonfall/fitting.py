"""What fits: whether a picture can be seen at a standing, and what shows that it can, or that it can't."""

from moonfall.charts import Chart
from moonfall.masks import bits, count_bits
from moonfall.matching import is_short, lacks_more, seat_all, short_lot, turned_about
from moonfall.whole import are_numbers, is_between


def fits(sky, picture, standing):
    """Whether a picture can be seen at a standing."""
    return fits_by(Chart(sky), picture, standing)


def fits_by(chart, picture, standing):
    """The same by the chart of a sky, for who asks often."""
    camera = chart.sky.camera
    masks = []
    strange = 0
    for point in picture:
        mask = chart.of_point(point, standing)
        if not mask:
            strange += 1
            if strange > camera.false:
                return False
        masks.append(mask)
    # Points and craters are looked at each by itself: Mendelsohn and Dulmage join both.
    if lacks_more(masks, camera.false):
        return False
    sure = chart.sure(standing)
    seen = count_bits(sure) - camera.lost
    return seen <= 0 or not lacks_more([mask & sure for mask in masks], len(masks) - seen)


def _both_ways(sky, picture, standing):
    """The rows of points (masks of craters), and the rows of the craters surely in (masks of points)."""
    chart = Chart(sky)
    masks = [chart.of_point(point, standing) for point in picture]
    return dict(enumerate(masks)), turned_about(masks, bits(chart.sure(standing)))


def who(sky, picture, standing):
    """Which point is of which crater, as a dict by numbers; None if the picture doesn't fit."""
    points, craters = _both_ways(sky, picture, standing)
    crater_of = {}
    lost = seat_all(craters, list(craters), crater_of)
    # Who has a partner keeps one when more are seated, so no crater is lost for the sake of a point.
    point_of = {crater: point for point, crater in crater_of.items()}
    free = [point for point in points if point not in crater_of]
    false = seat_all(points, free, point_of)
    if len(false) > sky.camera.false or len(lost) > sky.camera.lost:
        return None
    pairs = {point: crater for crater, point in point_of.items()}
    return {point: pairs[point] for point in sorted(pairs)}


def shows_fit(sky, picture, standing, pairs):
    """Whether anybody's thing shows that a picture fits a standing."""
    if not isinstance(pairs, dict):
        return False
    points, sure = _both_ways(sky, picture, standing)
    if not all([is_between(point, 0, len(picture) - 1) for point in pairs]):
        return False
    craters = tuple([pairs[point] for point in pairs])
    if not are_numbers(craters, len(sky.ground.craters)):
        return False
    if not all([points[point] >> pairs[point] & 1 for point in pairs]):
        return False
    lost = [crater for crater in sure if crater not in craters]
    return len(picture) - len(pairs) <= sky.camera.false and len(lost) <= sky.camera.lost


def against(sky, picture, standing):
    """A paper that a picture doesn't fit a standing; None if it does."""
    points, craters = _both_ways(sky, picture, standing)
    for word, rows, spare in (("points", points, sky.camera.false), ("craters", craters, sky.camera.lost)):
        numbers = short_lot(rows, spare)
        if numbers is not None:
            return word, numbers
    return None


def holds_against(sky, picture, standing, paper):
    """Whether anybody's thing is such a paper."""
    if not isinstance(paper, tuple) or len(paper) != 2 or not isinstance(paper[0], str):
        return False
    word, numbers = paper
    points, craters = _both_ways(sky, picture, standing)
    if word == "points":
        return are_numbers(numbers, len(points)) and is_short(points, numbers, sky.camera.false)
    if word != "craters" or not are_numbers(numbers, len(sky.ground.craters)):
        return False
    return all([number in craters for number in numbers]) and is_short(craters, numbers, sky.camera.lost)
