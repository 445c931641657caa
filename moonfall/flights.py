"""Flights as they truly go."""

from moonfall.beliefs import ends_of, is_whole_at
from moonfall.fitting import fits
from moonfall.landererrors import BadFlight
from moonfall.whole import is_between, is_triple


class Flight:
    """Where a craft truly is, and how it stands with it."""

    def __init__(self, craft, standing, fuel):
        craft.check_start((standing,), fuel)
        self.craft = craft
        self.standing = standing
        self.fuel = fuel
        self.stand = "flying"

    def ends(self, number):
        """The list of the standings to which a deed can lead from here."""
        return ends_of(self.craft, self.standing, self.craft.deeds[number])

    def do(self, number, end):
        """A deed is done, with an end that is chosen."""
        deeds = self.craft.deeds
        if self.stand != "flying" or not is_between(number, 0, len(deeds) - 1) or deeds[number].fuel > self.fuel:
            raise BadFlight(number)
        if not is_triple(end) or end not in self.ends(number):
            raise BadFlight(end)
        self.fuel -= deeds[number].fuel
        self.standing = end
        self.stand = self._stand_behind(deeds[number])

    def _stand_behind(self, deed):
        is_whole = is_whole_at(self.craft, deed, self.standing)
        if deed.kind == "land":
            return "landed" if is_whole else "crashed"
        if deed.kind == "away":
            return "away"
        return "flying" if is_whole else "out"

    def can_show(self, number, picture):
        """Whether a deed is a look that can bring a picture here."""
        deed = self.craft.deeds[number]
        return deed.kind == "look" and fits(self.craft.skies[deed.aim], picture, self.standing)
