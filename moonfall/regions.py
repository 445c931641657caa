"""Regions: from which standings, and from which beliefs, a goal is sure."""

from moonfall.crafts import MOST_TANK
from moonfall.landererrors import BadFlight
from moonfall.masks import bits
from moonfall.parting import Parting
from moonfall.sureness import sureness_for, sureness_of
from moonfall.whole import is_between


def sure_standings(craft, goal, fuel, most):
    """The ascending tuple of all standings that, alone believed, make a goal sure."""
    if not is_between(fuel, 0, MOST_TANK):
        raise BadFlight(fuel)
    sureness = sureness_of(craft, goal, most)
    found = []
    for standing in craft.skies[0].standings():
        if sureness.is_sure(sureness.ways.mask_of_belief((standing,)), fuel):
            found.append(standing)
    return tuple(found)


def greatest_beliefs(craft, goal, belief, fuel, most):
    """The ascending list of the greatest beliefs within one from which a goal is sure."""
    sureness, mask = sureness_for(craft, goal, belief, fuel, most)
    if sureness.is_sure(mask, fuel):
        return [belief]
    region = Region(sureness, belief, fuel)
    lots, _ = Parting(region, region.together(), sureness.budget).parted()
    return sorted([region.standings_of(lot) for lot in lots])


class Region:
    """The standings of a belief that alone make a goal sure with some fuel; lots are masks of their places."""

    def __init__(self, sureness, belief, fuel):
        self.sureness = sureness
        self.fuel = fuel
        self.alone = [standing for standing in belief if self._is_sure((standing,))]

    def _is_sure(self, standings):
        return self.sureness.is_sure(self.sureness.ways.mask_of_belief(standings), self.fuel)

    def standings_of(self, lot):
        """The ascending tuple of the standings of a lot."""
        return tuple([self.alone[number] for number in bits(lot)])

    def lets(self, lot):
        """Whether a lot makes the goal sure."""
        return self._is_sure(self.standings_of(lot))

    def together(self):
        """For each standing the mask of those that make the goal sure together with it, itself too."""
        masks = [1 << number for number in range(len(self.alone))]
        for number in range(len(self.alone)):
            for other in range(number):
                if self.lets(1 << number | 1 << other):
                    masks[number] |= 1 << other
                    masks[other] |= 1 << number
        return masks
