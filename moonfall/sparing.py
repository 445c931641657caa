"""Sparing: the fewest craters, and the least frame, with which a sky is safe."""

from moonfall.clashes import Clashes
from moonfall.grounds import Camera, Ground, Sky
from moonfall.likeness import Likeness
from moonfall.lots import first_safe_lot


def with_ground(sky, craters):
    """The sky with other craters."""
    return Sky(Ground(craters), sky.camera, sky.turns, sky.area)


def with_frame(sky, width, height):
    """The sky with another frame."""
    camera = sky.camera
    return Sky(sky.ground, Camera(width, height, camera.error, camera.false, camera.lost), sky.turns, sky.area)


def fewest_kept(sky, reach):
    """The first of the shortest lots of the ground's craters with which the sky is safe; None without any."""
    craters = sky.ground.craters
    lot = first_safe_lot(sky, 0, list(range(len(craters))), reach)
    return None if lot is None else tuple([craters[number] for number in lot])


def frames_up_to(width, height):
    """The list of all frames up to one, those with fewer cells first, then by their widths."""
    rows = sorted([(w * h, w, h) for w in range(1, width + 1) for h in range(1, height + 1)])
    return [(w, h) for _, w, h in rows]


def least_frame(sky, reach):
    """The first frame up to the camera's with which the sky is safe; None without any.

    A greater frame has more craters surely in and no more that look as one with them: so who is apart stays so.
    """
    best = None
    cells = sky.camera.width * sky.camera.height + 1
    known = []
    for width in range(1, sky.camera.width + 1):
        most = min(sky.camera.height, (cells - 1) // width)
        height = _least_height(sky, reach, width, most, known)
        if height is not None:
            best = (width, height)
            cells = width * height
    return best


def _least_height(sky, reach, width, most, known):
    """The least height, up to the most, with which a frame so wide is safe; None without any.

    Pairs of standings that clash with some frame are known from then on.
    """
    height = 1
    for pair in known:
        height = _height_apart(sky, pair, width, height, most)
    while height <= most:
        pair = Clashes(with_frame(sky, width, height)).least_pair(reach)
        if pair is None:
            return height
        known.append(pair)
        height = _height_apart(sky, pair, width, height, most)
    return None


def _height_apart(sky, pair, width, low, most):
    """The least height from low on with which a pair is not alike; one beyond the most without any."""
    one, other = pair
    high = most + 1
    while low < high:
        height = (low + high) // 2
        if Likeness(with_frame(sky, width, height)).are_alike(one, other):
            low = height + 1
        else:
            high = height
    return low
