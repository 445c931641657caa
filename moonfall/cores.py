"""Cores: as few standings and craters as can be without which some picture would fit."""

from moonfall.commons import common_points, owed_by
from moonfall.likeness import Likeness
from moonfall.matching import lacks_more, short_lot


def least_core(sky, spots, lot, budget):
    """Craters owed at some standings of a lot that no picture shows, as a dict by their places; None without any.

    What is owed without one of them, or without one of the standings, some picture shows.
    """
    places = [at for at, standing in enumerate(lot) if standing not in lot[:at]]
    pair = _unlike_pair(sky, lot, places)
    if pair is not None:
        return pair
    owed = owed_by(spots, places)
    if common_points(spots, owed, budget) is not None:
        return None
    return _with_less(spots, _with_fewer(spots, owed, budget), budget)


def _unlike_pair(sky, lot, places):
    """The same of two standings that are not alike, those with the fewest craters; None without any."""
    likeness = Likeness(sky)
    pairs = [(at, other) for at in places for other in places]
    found = [(at, other, _short_of(likeness, lot[at], lot[other])) for at, other in pairs]
    ranked = sorted([(len(short), at, other, short) for at, other, short in found if short is not None])
    if not ranked:
        return None
    _, first, second, fewest = ranked[0]
    return {first: fewest, second: []}


def _short_of(likeness, one, other):
    """As few craters surely in at the first standing as can be, too many for the other one; None without any."""
    rows = likeness.partner_rows(one, other)
    short = short_lot(rows, likeness.slack)
    if short is None:
        return None
    left = list(short)
    for number in short:
        less = [one_of for one_of in left if one_of != number]
        if lacks_more([rows[one_of] for one_of in less], likeness.slack):
            left = less
    return left


def _with_fewer(spots, owed, budget):
    """What is owed without standings that aren't needed."""
    for at in sorted(owed):
        less = {other: owed[other] for other in owed if other != at}
        if common_points(spots, less, budget) is None:
            owed = less
    return owed


def _with_less(spots, owed, budget):
    """What is owed without craters that aren't needed."""
    for at in sorted(owed):
        for number in owed[at]:
            less = {other: owed[other] for other in owed}
            less[at] = [one for one in owed[at] if one != number]
            if common_points(spots, less, budget) is None:
                owed = less
    return owed
