"""Deeds: what a lander can do, what it takes, and how far it may slip."""

from moonfall.landererrors import BadDeed
from moonfall.whole import is_between, is_pair

KINDS = ("step", "turn", "look", "land", "away")
SLIPPING = ("step", "land")
NO_SLIPS = ((0, 0),)
MOST_FUEL = 1000
MOST_CAMERA = 1000


def _is_aim(kind, thing):
    """Whether a thing is what a deed of a kind aims at."""
    if kind == "step":
        return is_pair(thing)
    if kind == "turn":
        return is_between(thing, 1, 3)
    if kind == "look":
        return is_between(thing, 0, MOST_CAMERA)
    return thing is None


def _are_slips(kind, thing):
    """Whether a thing is a tuple of slips of a deed of a kind."""
    if not isinstance(thing, tuple) or not thing or not all([is_pair(slip) for slip in thing]):
        return False
    return kind in SLIPPING or thing == NO_SLIPS


class Deed:
    """A deed of one of the kinds: a step, a turn, a look, landing, climbing away."""

    def __init__(self, kind, fuel, aim, slips):
        if not isinstance(kind, str) or kind not in KINDS:
            raise BadDeed("kind")
        if not is_between(fuel, 1, MOST_FUEL):
            raise BadDeed("fuel")
        if not _is_aim(kind, aim):
            raise BadDeed("aim")
        if not _are_slips(kind, slips):
            raise BadDeed("slips")
        self.kind = kind
        self.fuel = fuel
        self.aim = aim
        self.slips = tuple(sorted(set(slips)))

    def __eq__(self, other):
        return (isinstance(other, Deed) and self.kind == other.kind and self.fuel == other.fuel
                and self.aim == other.aim and self.slips == other.slips)


def step(fuel, aim, slips):
    """A step by a pair, as the camera lies, and one of some slips more."""
    return Deed("step", fuel, aim, slips)


def turn(fuel, aim):
    """A turn by some quarters about the foot."""
    return Deed("turn", fuel, aim, NO_SLIPS)


def look(fuel, aim):
    """A look by a camera, by its number."""
    return Deed("look", fuel, aim, NO_SLIPS)


def land(fuel, slips):
    """Landing, one of some slips beside."""
    return Deed("land", fuel, None, slips)


def away(fuel):
    """Climbing away for good."""
    return Deed("away", fuel, None, NO_SLIPS)
