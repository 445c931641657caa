"""Telling: a craft, line by line, in any order."""

from moonfall.crafts import Craft
from moonfall.deeds import KINDS
from moonfall.errors import BadCamera, MoonError
from moonfall.grounds import Camera, Ground, Sky
from moonfall.moontexts import number_of, read_deed, word_at
from moonfall.texterrors import BadText

# How many numbers there are behind a line's first word.
MANY = (("crater", 3), ("camera", 5), ("area", 4), ("foot", 2), ("room", 1))


def check_end(words, many, line):
    """Raise BadText if there is a word too much behind so many."""
    if len(words) > many:
        raise BadText(line, many)


def numbers_of(words, many, line):
    """The tuple of the numbers behind a line's first word."""
    numbers = []
    for at in range(1, many + 1):
        number = number_of(word_at(words, at))
        if number is None:
            raise BadText(line, at)
        numbers.append(number)
    check_end(words, many + 1, line)
    return tuple(numbers)


def _camera_of(numbers, line):
    try:
        return Camera(*numbers)
    except BadCamera:
        raise BadText(line, 1)


class Telling:
    """What was told of a craft so far."""

    def __init__(self):
        self.craters = []
        self.cameras = []
        self.turns = (0,)
        self.area = (0, 0, 0, 0)
        self.foot = (0, 0)
        self.room = 0
        self.deeds = []

    def tell(self, text, line):
        """A line more is told; BadText, with its number, for its first wrong word."""
        words = text.split(" ")
        if words[0] in KINDS:
            self.deeds.append(read_deed(text, line))
        elif words[0] == "turns":
            self.turns = numbers_of(words, max(1, len(words) - 1), line)
        else:
            counts = [many for word, many in MANY if word == words[0]]
            if not counts:
                raise BadText(line, 0)
            self._take(words[0], numbers_of(words, counts[0], line), line)

    def _take(self, word, numbers, line):
        if word == "crater":
            self.craters.append(numbers)
        elif word == "camera":
            self.cameras.append(_camera_of(numbers, line))
        elif word == "area":
            self.area = numbers
        elif word == "foot":
            self.foot = numbers
        else:
            self.room = numbers[0]

    def craft_told(self):
        """The craft; None if what was told is none together."""
        try:
            ground = Ground(self.craters)
            skies = [Sky(ground, camera, self.turns, self.area) for camera in self.cameras]
            return Craft(tuple(skies), self.foot, self.room, tuple(self.deeds))
        except MoonError:
            return None
