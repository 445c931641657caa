"""What looks alike: two standings, what shows that they do or don't, and all that look like one."""

from moonfall.clashes import Clashes
from moonfall.likeness import Likeness
from moonfall.matching import is_short, seat_all, short_lot
from moonfall.whole import are_numbers, is_between


def are_alike(sky, one, other):
    """Whether some picture fits two standings of the sky."""
    _check_both(sky, one, other)
    return Likeness(sky).are_alike(one, other)


def _check_both(sky, one, other):
    sky.check_standing(one)
    sky.check_standing(other)


def apart(sky, one, other):
    """A paper that two standings are not alike; None if they are."""
    likeness = Likeness(sky)
    for at, first, second in ((0, one, other), (1, other, one)):
        numbers = short_lot(likeness.partner_rows(first, second), likeness.slack)
        if numbers is not None:
            return at, numbers
    return None


def holds_apart(sky, one, other, paper):
    """Whether anybody's thing is such a paper."""
    if not isinstance(paper, tuple) or len(paper) != 2:
        return False
    at, numbers = paper
    if not is_between(at, 0, 1) or not are_numbers(numbers, len(sky.ground.craters)):
        return False
    likeness = Likeness(sky)
    rows = likeness.partner_rows(other, one) if at else likeness.partner_rows(one, other)
    return all([number in rows for number in numbers]) and is_short(rows, numbers, likeness.slack)


def picture_for(sky, one, other):
    """A picture that fits two standings of the sky; None without any."""
    _check_both(sky, one, other)
    likeness = Likeness(sky)
    if not likeness.are_alike(one, other):
        return None
    pairs = _pairs_between(likeness, one, other)
    places = sky.places(one)
    others = sky.places(other)
    points = [_middle(places[crater], others[pairs[crater]]) for crater in pairs]
    seen = [pairs[crater] for crater in pairs]
    # Of those without a partner some are lost, and the rest is shown: that is false at the other standing.
    alone = [crater for crater in sky.sure_craters(one) if crater not in pairs]
    points.extend([places[crater] for crater in alone[sky.camera.lost:]])
    alone = [crater for crater in sky.sure_craters(other) if crater not in seen]
    points.extend([others[crater] for crater in alone[sky.camera.lost:]])
    return tuple(sorted(points))


def _pairs_between(likeness, one, other):
    """A dict from craters at the first standing to craters at the other one with which they can look as one.

    As many of those surely in as can be are in it, of both standings at once.
    """
    rows = likeness.partner_rows(one, other)
    seen_as = {}
    seat_all(rows, list(rows), seen_as)
    back = likeness.partner_rows(other, one)
    pairs = {crater: partner for partner, crater in seen_as.items()}
    # Who is surely in at the other standing may take the partner of one that isn't: that partner keeps one.
    seat_all(back, [partner for partner in back if partner not in seen_as], pairs)
    return pairs


def _middle(place, other):
    """The place halfway between two places of one size."""
    return (place[0] + other[0]) // 2, (place[1] + other[1]) // 2, place[2]


def is_blind(sky, standing):
    """Whether so few craters are surely in at a standing that all of them may be left out."""
    return Likeness(sky).is_blind(standing)


def alike_to(sky, standing):
    """The standings of the sky that are alike to one of it, itself too, ascending."""
    sky.check_standing(standing)
    return tuple(Clashes(sky).alike_to(standing))
