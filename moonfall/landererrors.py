"""The errors of landers; each keeps its argument as an attribute."""

from moonfall.errors import MoonError


class BadDeed(MoonError):
    """What is wrong with a deed, by its word."""

    def __init__(self, word):
        self.word = word


class BadCraft(MoonError):
    """What is wrong with a craft, by its word."""

    def __init__(self, word):
        self.word = word


class BadBelief(MoonError):
    """A thing that is no belief."""

    def __init__(self, belief):
        self.belief = belief


class BadFlight(MoonError):
    """What a flight doesn't let: a fuel, a goal, a deed, an end, a picture."""

    def __init__(self, thing):
        self.thing = thing


class BadCut(MoonError):
    """A place at which a log can't be cut."""

    def __init__(self, place):
        self.place = place
