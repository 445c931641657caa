"""Landers in flight: what is believed, and which deed is next."""

from moonfall.beliefs import behind, is_end, seen
from moonfall.hopes import is_hopeful
from moonfall.landererrors import BadFlight
from moonfall.moreerrors import TooMany
from moonfall.plans import deed_by, plan_for
from moonfall.whole import is_between


class Lander:
    """What a lander knows that sees only what it sees."""

    def __init__(self, craft, belief, fuel, most):
        craft.check_start(belief, fuel)
        self.craft = craft
        self.most = most
        self.belief = belief
        self.fuel = fuel
        self.stand = "flying"
        self.looking = None

    def do(self, number):
        """A deed is done."""
        if self.stand != "flying" or self.looking is not None or not is_between(number, 0, len(self.craft.deeds) - 1):
            raise BadFlight(number)
        deed = self.craft.deeds[number]
        belief = self._belief_behind(deed)
        if deed.fuel > self.fuel or not belief:
            raise BadFlight(number)
        self.fuel -= deed.fuel
        self.belief = belief
        if is_end(deed):
            self.stand = deed.kind
        elif deed.kind == "look":
            self.looking = number

    def _belief_behind(self, deed):
        """What is believed behind a deed: those that can be."""
        if deed.kind not in ("step", "turn"):
            return self.belief
        return tuple([end for end in behind(self.craft, self.belief, deed) if self.craft.is_over(end)])

    def see(self, picture):
        """The picture of a look comes."""
        if self.looking is None:
            raise BadFlight(picture)
        deed = self.craft.deeds[self.looking]
        self.craft.skies[deed.aim].camera.check_picture(picture)
        belief = seen(self.craft, self.belief, deed, picture)
        if not belief:
            raise BadFlight(picture)
        self.belief = belief
        self.looking = None

    def choice(self):
        """The number of the deed that it does next; None if there is none, or nothing can be promised."""
        if self.stand != "flying" or self.looking is not None:
            return None
        number = self._planned("land")
        if number is None:
            number = self._hopeful()
        return self._planned("keep") if number is None else number

    def _planned(self, goal):
        """The number of a deed with which a goal is sure; None without any."""
        try:
            plan = plan_for(self.craft, goal, self.belief, self.fuel, self.most)
        except TooMany:
            return None
        return None if plan is None else deed_by(plan, self.belief, self.fuel)

    def _hopeful(self):
        """The number of the first deed behind which keep is sure, and land can be; None without any."""
        for number, deed in enumerate(self.craft.deeds):
            if deed.fuel <= self.fuel and is_hopeful(self.craft, self.belief, deed, self.fuel - deed.fuel, self.most):
                return number
        return None
