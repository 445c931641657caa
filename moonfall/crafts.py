"""Crafts: cameras over one ground, the foot above which it lands, and the deeds that there are."""

from moonfall.deeds import Deed
from moonfall.grounds import Sky, turned
from moonfall.landererrors import BadBelief, BadCraft, BadFlight
from moonfall.whole import is_between, is_pair

MOST_ROOM = 1000
MOST_TANK = 60


def _are_skies(thing):
    """Whether a thing is a tuple of skies of one ground, the same turns and one area, one at least."""
    if not isinstance(thing, tuple) or not thing or not all([isinstance(sky, Sky) for sky in thing]):
        return False
    first = thing[0]
    return all([sky.ground == first.ground and sky.turns == first.turns and sky.area == first.area for sky in thing])


def _are_deeds(thing, cameras):
    """Whether a thing is a tuple of deeds whose looks are by cameras that are there."""
    if not isinstance(thing, tuple) or not all([isinstance(deed, Deed) for deed in thing]):
        return False
    return all([deed.kind != "look" or deed.aim < cameras for deed in thing])


class Craft:
    """A lander's craft, that knows the ground but not where over it it is."""

    def __init__(self, skies, foot, room, deeds):
        if not _are_skies(skies):
            raise BadCraft("skies")
        if not is_pair(foot):
            raise BadCraft("foot")
        if not is_between(room, 0, MOST_ROOM):
            raise BadCraft("room")
        if not _are_deeds(deeds, len(skies)):
            raise BadCraft("deeds")
        self.skies = skies
        self.foot = foot
        self.room = room
        self.deeds = deeds

    def __eq__(self, other):
        return (isinstance(other, Craft) and self.skies == other.skies and self.foot == other.foot
                and self.room == other.room and self.deeds == other.deeds)

    def is_over(self, standing):
        """Whether the craft can be at a standing."""
        return self.skies[0].is_standing(standing)

    def is_safe(self, standing):
        """Whether each crater is further from the foot than its size and the room together."""
        right, down = self.foot
        for x, y, size in self.skies[0].places(standing):
            if max(abs(x - right), abs(y - down)) <= size + self.room:
                return False
        return True

    def cell_below(self, standing):
        """The place of the ground that is at the foot."""
        quarters, a, b = standing
        return turned(self.foot[0] - a, self.foot[1] - b, -quarters & 3)

    def stepped(self, standing, shift):
        """The standing behind a step: what is seen goes the other way."""
        quarters, a, b = standing
        return quarters, a - shift[0], b - shift[1]

    def swung(self, standing, quarters):
        """The standing behind a turn: what is seen turns about the foot."""
        right, down = self.foot
        x, y = turned(standing[1] - right, standing[2] - down, quarters)
        return (standing[0] + quarters) & 3, right + x, down + y

    def check_belief(self, belief):
        """Raise BadBelief unless it is an ascending tuple of unlike standings that can be, one at least."""
        if not isinstance(belief, tuple) or not belief or not all([self.is_over(standing) for standing in belief]):
            raise BadBelief(belief)
        for at, standing in enumerate(belief[1:]):
            if belief[at] >= standing:
                raise BadBelief(belief)

    def check_start(self, belief, fuel):
        """The same; then raise BadFlight unless the fuel is what a tank can hold."""
        self.check_belief(belief)
        if not is_between(fuel, 0, MOST_TANK):
            raise BadFlight(fuel)
