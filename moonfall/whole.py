"""What anybody's thing is: a whole number, a point, a row of numbers. True and False are no numbers."""

MOST_CRATERS = 100
MOST_SIZE = 99
FARTHEST = 1000000
FARTHEST_MOVE = 10000
FARTHEST_STEP = 1000


def is_whole(thing):
    """Whether a thing is an integer as the conventions mean it."""
    return isinstance(thing, int) and not isinstance(thing, bool)


def is_between(thing, low, high):
    """Whether a thing is an integer from low to high."""
    return is_whole(thing) and low <= thing <= high


def is_triple(thing):
    """Whether a thing is a tuple of three integers."""
    return isinstance(thing, tuple) and len(thing) == 3 and all([is_whole(part) for part in thing])


def is_point(thing):
    """Whether a thing is a point (x, y, size)."""
    return is_triple(thing) and 1 <= thing[2] <= MOST_SIZE


def is_crater(thing):
    """Whether a thing is a point that may be a crater of a ground."""
    return is_point(thing) and all([-FARTHEST <= part <= FARTHEST for part in thing[:2]])


def is_pair(thing):
    """Whether a thing is a pair (right, down) of a step, of a slip, of a place in the camera."""
    if not isinstance(thing, tuple) or len(thing) != 2:
        return False
    return all([is_between(part, -FARTHEST_STEP, FARTHEST_STEP) for part in thing])


def is_turn(thing):
    """Whether a thing is a number of quarters."""
    return is_between(thing, 0, 3)


def are_numbers(thing, many):
    """Whether a thing is a tuple of unlike numbers below many."""
    if not isinstance(thing, tuple) or not all([is_between(part, 0, many - 1) for part in thing]):
        return False
    return len(set(thing)) == len(thing)
