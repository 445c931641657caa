"""Looks: how few of them are enough for a goal to be sure."""

from moonfall.hints import Hints
from moonfall.sureness import Sureness, sureness_for


def fewest_looks(craft, goal, belief, fuel, most):
    """The fewest looks with which, at most, some way to choose deeds makes a goal sure in every run; None if none."""
    sureness, mask = sureness_for(craft, goal, belief, fuel, most)
    if not sureness.is_sure(mask, fuel):
        return None
    search = _without_looks(sureness)
    many = 0
    # Each look takes fuel, so some number of them is enough.
    while not search.is_sure(mask, fuel):
        search = _with_one_more(sureness, search)
        many += 1
    return many


def _without_looks(sureness):
    """The search of a goal by all deeds but looks."""
    deeds = [(number, deed) for number, deed in sureness.deeds if deed.kind != "look"]
    return Sureness(Hints(sureness.ways, sureness.goal, deeds), sureness.budget, sureness.patience)


def _with_one_more(sureness, below):
    """The search with one look more than another one."""
    search = Sureness(sureness.hints, sureness.budget, sureness.patience)
    search.behind_looks = below
    return search
