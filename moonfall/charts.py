"""Charts: the craters of a sky as masks, a bit for each crater's number, told fast by where they are."""

from moonfall.grounds import turned


class Chart:
    """What is asked of a sky's craters again and again, kept once it was worked out."""

    def __init__(self, sky):
        self.sky = sky
        self._lines = {}
        self._known = {}
        self._sizes = {}
        for number, (_, _, size) in enumerate(sky.ground.craters):
            self._sizes[size] = self._sizes.get(size, 0) | 1 << number

    def of_size(self, size):
        """The craters of a size."""
        return self._sizes.get(size, 0)

    def places_along(self, axis, turn):
        """The x (axis 0) or y (axis 1) of all craters, by their numbers, when the ground is turned."""
        if turn not in self._lines:
            places = [turned(x, y, turn) for x, y, _ in self.sky.ground.craters]
            self._lines[turn] = ([x for x, _ in places], [y for _, y in places])
        return self._lines[turn][axis]

    def between(self, axis, turn, low, high):
        """The craters from low to high along an axis, when the ground is turned."""
        key = (axis, turn, low, high)
        found = self._known.get(key)
        if found is None:
            found = 0
            for number, where in enumerate(self.places_along(axis, turn)):
                if low <= where <= high:
                    found |= 1 << number
            self._known[key] = found
        return found

    def square(self, turn, x, y, reach):
        """The craters at most so far from (x, y) in each coordinate, when the ground is turned."""
        found = self.between(0, turn, x - reach, x + reach)
        if found:
            found &= self.between(1, turn, y - reach, y + reach)
        return found

    def sure(self, standing):
        """The craters surely in at a standing."""
        turn, a, b = standing
        camera = self.sky.camera
        edge = camera.error
        found = self.between(0, turn, edge - a, camera.width - edge - 1 - a)
        return found & self.between(1, turn, edge - b, camera.height - edge - 1 - b)

    def of_point(self, point, standing):
        """The craters that a point can be of at a standing."""
        turn, a, b = standing
        x, y, size = point
        if size not in self._sizes:
            return 0
        return self._sizes[size] & self.square(turn, x - a, y - b, self.sky.camera.error)
