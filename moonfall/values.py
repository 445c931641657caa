"""Values: what is sure, and with how little fuel."""

from moonfall.sureness import sureness_for


def is_sure(craft, goal, belief, fuel, most):
    """Whether some way to choose deeds by what was seen comes to a goal in every run."""
    sureness, mask = sureness_for(craft, goal, belief, fuel, most)
    return sureness.is_sure(mask, fuel)


def least_fuel(craft, goal, belief, fuel, most):
    """The least fuel, at most so much, with which it is sure; None without any."""
    sureness, mask = sureness_for(craft, goal, belief, fuel, most)
    return sureness.least_fuel(mask, fuel)
