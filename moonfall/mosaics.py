"""Mosaics: whether two pictures can be of one ground that nobody knows, and what shows that they can or can't."""

from moonfall.grounds import Ground, turned
from moonfall.joints import Joint
from moonfall.matching import is_short, seat_all, short_lot
from moonfall.whole import are_numbers, is_between


def can_join(camera, one, other, motion):
    """Whether some ground has the first picture at (0, 0, 0), and the other one at a motion as a standing."""
    _check_both(camera, one, other)
    turn, a, b = motion
    return Joint(camera, one, other, turn).can_join(a, b)


def _check_both(camera, one, other):
    camera.check_picture(one)
    camera.check_picture(other)


def apart_by(camera, one, other, motion):
    """A paper that no ground has both; None if some has."""
    _check_both(camera, one, other)
    turn, a, b = motion
    joint = Joint(camera, one, other, turn)
    for side in (0, 1):
        numbers = short_lot(joint.partner_rows(side, a, b), joint.slack)
        if numbers is not None:
            return side, numbers
    return None


def holds_apart_by(camera, one, other, motion, paper):
    """Whether anybody's thing is such a paper."""
    if not isinstance(paper, tuple) or len(paper) != 2:
        return False
    side, numbers = paper
    if not is_between(side, 0, 1) or not are_numbers(numbers, len(other) if side else len(one)):
        return False
    turn, a, b = motion
    joint = Joint(camera, one, other, turn)
    rows = joint.partner_rows(side, a, b)
    return all([number in rows for number in numbers]) and is_short(rows, numbers, joint.slack)


def ground_for(camera, one, other, motion):
    """A ground that has both; None without any."""
    _check_both(camera, one, other)
    turn, a, b = motion
    joint = Joint(camera, one, other, turn)
    if not joint.can_join(a, b):
        return None
    pairs = _pairs_between(joint, a, b)
    back = [_led_back(point, motion) for point in other]
    craters = [_middle(one[number], back[pairs[number]]) for number in pairs]
    alone = [number for number in range(len(one)) if number not in pairs]
    led = [_led(point, motion) for point in one]
    craters.extend([_led_back(place, motion) for place in _own_places(joint, joint.owing(0, a, b), alone, led)])
    seen = [pairs[number] for number in pairs]
    alone = [number for number in range(len(other)) if number not in seen]
    craters.extend(_own_places(joint, joint.owing(1, a, b), alone, back))
    return Ground(craters)


def _led(point, motion):
    """Where a point of the first picture is led."""
    turn, a, b = motion
    x, y = turned(point[0], point[1], turn)
    return x + a, y + b, point[2]


def _led_back(point, motion):
    """Where a point of the other picture comes from."""
    turn, a, b = motion
    x, y = turned(point[0] - a, point[1] - b, -turn & 3)
    return x, y, point[2]


def _pairs_between(joint, a, b):
    """A dict from points of the first picture to partners in the other one.

    As many of those that owe a partner as can be are in it, of both pictures at once.
    """
    rows = joint.partner_rows(0, a, b)
    seen_as = {}
    seat_all(rows, list(rows), seen_as)
    back = joint.partner_rows(1, a, b)
    pairs = {point: partner for partner, point in seen_as.items()}
    # A point that owes nothing may lose its partner to one that owes one: that partner keeps one.
    seat_all(back, [partner for partner in back if partner not in seen_as], pairs)
    return pairs


def _middle(point, other):
    """The place halfway between two points of one size."""
    return (point[0] + other[0]) // 2, (point[1] + other[1]) // 2, point[2]


def _own_places(joint, owing, alone, led):
    """Places for craters of the points of one picture that have no partner, as they are for the other camera.

    Who owes nothing has one that isn't surely in there; of the others some are lost there, and the rest is false.
    """
    owed = [number for number in alone if owing >> number & 1]
    places = [led[number] for number in owed[:joint.camera.lost]]
    places.extend([_unsure_place(joint.camera, led[number]) for number in alone if not owing >> number & 1])
    return places


def _unsure_place(camera, point):
    """A place within the error of one at which a crater isn't surely in: if there is any, a corner is one."""
    x, y, size = point
    error = camera.error
    corners = [(x + right, y + down) for right in (-error, error) for down in (-error, error)]
    across, along = [corner for corner in corners if not camera.is_sure(corner[0], corner[1])][0]
    return across, along, size


def motions_between(camera, one, other, turns, area):
    """The ascending tuple of all motions, of some turns and shifts in a box, by which both can be joined."""
    _check_both(camera, one, other)
    low_a, high_a, low_b, high_b = area
    found = []
    for turn in sorted(set(turns)):
        joint = Joint(camera, one, other, turn)
        for a in range(low_a, high_a + 1):
            found.extend([(turn, a, b) for b in range(low_b, high_b + 1) if joint.can_join(a, b)])
    return tuple(found)
