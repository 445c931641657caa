"""Goals: to land safely, or to land safely or climb away."""

GOALS = ("land", "keep")


def is_goal(thing):
    """Whether a thing is a goal."""
    return isinstance(thing, str) and thing in GOALS


def reaches(deed, goal):
    """Whether a deed that ends a flight, and keeps the craft whole, comes to a goal."""
    return deed.kind == "land" or goal == "keep"
