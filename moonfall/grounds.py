"""Grounds with craters, cameras that err, and skies: where one can be."""

from moonfall.errors import BadCamera, BadGround, BadPicture, BadSky, BadStanding
from moonfall.whole import FARTHEST, MOST_CRATERS, is_between, is_crater, is_point, is_triple, is_turn

CAMERA_BOUNDS = (("width", 1, 1000), ("height", 1, 1000), ("error", 0, 100), ("false", 0, 100), ("lost", 0, 100))
MOST_STANDINGS = 40000


def turned(x, y, turn):
    """A place, turned about (0, 0) by so many quarters."""
    if turn == 0:
        return x, y
    if turn == 1:
        return -y, x
    if turn == 2:
        return -x, -y
    return y, -x


class Ground:
    """The craters of a moon, ascending."""

    def __init__(self, craters):
        for number, crater in enumerate(craters):
            if number >= MOST_CRATERS or not is_crater(crater):
                raise BadGround(number)
        self.craters = tuple(sorted(craters))

    def __eq__(self, other):
        return isinstance(other, Ground) and self.craters == other.craters


class Camera:
    """How much is seen, and how far what is seen may err."""

    def __init__(self, width, height, error, false, lost):
        for (word, low, high), number in zip(CAMERA_BOUNDS, (width, height, error, false, lost)):
            if not is_between(number, low, high):
                raise BadCamera(word)
        self.width = width
        self.height = height
        self.error = error
        self.false = false
        self.lost = lost

    def __eq__(self, other):
        return (isinstance(other, Camera) and self.width == other.width and self.height == other.height
                and self.error == other.error and self.false == other.false and self.lost == other.lost)

    def is_sure(self, x, y):
        """Whether a place is so well within the frame that a crater there is seen in it."""
        return self._is_within(x, y, self.error)

    def is_maybe(self, x, y):
        """Whether a crater at a place can be seen in the frame."""
        return self._is_within(x, y, -self.error)

    def _is_within(self, x, y, edge):
        return edge <= x < self.width - edge and edge <= y < self.height - edge

    def check_picture(self, picture):
        """Raise BadPicture unless it is a tuple of points in the frame."""
        if not isinstance(picture, tuple):
            raise BadPicture(0)
        for number, point in enumerate(picture):
            if not is_point(point) or not self._is_within(point[0], point[1], 0):
                raise BadPicture(number)


def _are_turns(thing):
    """Whether a thing is an ascending tuple of unlike turns, one at least."""
    if not isinstance(thing, tuple) or not thing or not all([is_turn(turn) for turn in thing]):
        return False
    return all([turn < thing[at + 1] for at, turn in enumerate(thing[:-1])])


def _is_area(thing):
    """Whether a thing is a tuple (least a, greatest a, least b, greatest b)."""
    if not isinstance(thing, tuple) or len(thing) != 4:
        return False
    if not all([is_between(number, -FARTHEST, FARTHEST) for number in thing]):
        return False
    return thing[0] <= thing[1] and thing[2] <= thing[3]


class Sky:
    """A ground, a camera over it, and the standings at which it can be."""

    def __init__(self, ground, camera, turns, area):
        if not _are_turns(turns):
            raise BadSky("turns")
        if not _is_area(area):
            raise BadSky("area")
        if len(turns) * (area[1] - area[0] + 1) * (area[3] - area[2] + 1) > MOST_STANDINGS:
            raise BadSky("great")
        self.ground = ground
        self.camera = camera
        self.turns = turns
        self.area = area

    def __eq__(self, other):
        return (isinstance(other, Sky) and self.ground == other.ground and self.camera == other.camera
                and self.turns == other.turns and self.area == other.area)

    def standings(self):
        """The ascending tuple of all standings of the sky."""
        low_a, high_a, low_b, high_b = self.area
        shifts = [(a, b) for a in range(low_a, high_a + 1) for b in range(low_b, high_b + 1)]
        return tuple([(turn, a, b) for turn in self.turns for a, b in shifts])

    def is_standing(self, thing):
        """Whether anybody's thing is a standing of the sky."""
        if not is_triple(thing):
            return False
        turn, a, b = thing
        low_a, high_a, low_b, high_b = self.area
        return turn in self.turns and low_a <= a <= high_a and low_b <= b <= high_b

    def check_standing(self, thing):
        """Raise BadStanding unless it is a standing of the sky."""
        if not self.is_standing(thing):
            raise BadStanding(thing)

    def place(self, crater, standing):
        """Where a crater is in the camera at a standing, with its size."""
        turn, a, b = standing
        x, y = turned(crater[0], crater[1], turn)
        return x + a, y + b, crater[2]

    def places(self, standing):
        """The places of all craters, by their numbers."""
        return [self.place(crater, standing) for crater in self.ground.craters]

    def sure_craters(self, standing):
        """The numbers of the craters that are surely in at a standing."""
        places = self.places(standing)
        return [number for number, (x, y, _) in enumerate(places) if self.camera.is_sure(x, y)]
