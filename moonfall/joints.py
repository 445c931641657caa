"""Joints: two pictures of a ground that nobody knows, and which of their points owe each other a partner."""

from moonfall.grounds import turned
from moonfall.masks import bits
from moonfall.matching import lacks_more


class Joint:
    """Two pictures and the turn between them; what is asked of a shift along an axis is kept once it was worked out.

    A point owes a partner if it can be only of craters surely in for the other camera. The partners of a point are
    the points of the other picture that have its size and are at most twice the error from where it is led.
    """

    def __init__(self, camera, one, other, turn):
        self.camera = camera
        self.slack = camera.lost + camera.false
        self.one = one
        self.other = other
        self.led = [(*turned(x, y, turn), size) for x, y, size in one]
        # All places within the error of a point, and all within the error of these, must be in the frame.
        edge = 2 * camera.error
        self._inner = (edge, camera.width - 1 - edge, edge, camera.height - 1 - edge)
        self._led_inner = self._led_box(turn)
        self._owing = {}
        self._near = {}

    def _led_box(self, turn):
        low_x, high_x, low_y, high_y = self._inner
        if low_x > high_x or low_y > high_y:
            return self._inner
        corners = [turned(x, y, turn) for x, y in ((low_x, low_y), (high_x, high_y))]
        across = [x for x, _ in corners]
        along = [y for _, y in corners]
        return min(across), max(across), min(along), max(along)

    def _owing_along(self, axis, shift):
        """The masks of the points of the first and of the other picture that an axis lets owe a partner."""
        key = (axis, shift)
        if key not in self._owing:
            low, high = self._inner[2 * axis:2 * axis + 2]
            led_low, led_high = self._led_inner[2 * axis:2 * axis + 2]
            first = _mask_where([low <= point[axis] + shift <= high for point in self.led])
            second = _mask_where([led_low <= point[axis] - shift <= led_high for point in self.other])
            self._owing[key] = (first, second)
        return self._owing[key]

    def _near_along(self, axis, shift):
        """For each point of the first, and of the other picture, the mask of those that an axis lets be partners."""
        key = (axis, shift)
        if key not in self._near:
            first = [self._partners_along(point, self.other, axis, shift) for point in self.led]
            second = [self._partners_along(point, self.led, axis, -shift) for point in self.other]
            self._near[key] = (first, second)
        return self._near[key]

    def _partners_along(self, point, others, axis, shift):
        where = point[axis] + shift
        reach = 2 * self.camera.error
        return _mask_where([point[2] == other[2] and abs(where - other[axis]) <= reach for other in others])

    def owing(self, side, a, b):
        """The mask of the points of the first (0) or the other picture (1) that owe a partner, by a shift."""
        return self._owing_along(0, a)[side] & self._owing_along(1, b)[side]

    def partner_rows(self, side, a, b):
        """From the numbers of these points to the masks of their partners."""
        across = self._near_along(0, a)[side]
        along = self._near_along(1, b)[side]
        return {number: across[number] & along[number] for number in bits(self.owing(side, a, b))}

    def _is_lacking(self, side, a, b):
        if not self.owing(side, a, b):
            return False
        rows = self.partner_rows(side, a, b)
        return len(rows) > self.slack and lacks_more([rows[number] for number in rows], self.slack)

    def can_join(self, a, b):
        """Whether some ground has both pictures, by a shift."""
        return not self._is_lacking(0, a, b) and not self._is_lacking(1, a, b)


def _mask_where(truths):
    mask = 0
    for number, is_so in enumerate(truths):
        if is_so:
            mask |= 1 << number
    return mask
