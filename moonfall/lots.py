"""Lots of craters: the first one with which a sky is safe."""

from itertools import combinations

from moonfall.clashes import Clashes, are_far
from moonfall.masks import mask_of


def first_safe_lot(sky, always, numbers, reach):
    """The first of the shortest lots out of a list of numbers of craters that make the sky safe; None without any.

    The craters of the mask `always` are kept besides, and no others.
    """
    clashes = Clashes(sky)
    slack = clashes.likeness.slack
    clashes.keep(always | mask_of(numbers), slack)
    if are_far(clashes.blind(), reach):
        # With fewer craters these stay blind, so they stay alike.
        return None
    known = []
    for many in range(len(numbers) + 1):
        for lot in combinations(numbers, many):
            clashes.keep(always | mask_of(lot), slack)
            # Pairs that clashed with other lots mostly clash with this one, too: they are asked first.
            if _is_any_alike(clashes.likeness, known):
                continue
            pair = clashes.least_pair(reach)
            if pair is None:
                return lot
            known.append(pair)
    return None


def _is_any_alike(likeness, pairs):
    for one, other in pairs:
        if likeness.are_alike(one, other):
            return True
    return False
