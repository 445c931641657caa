"""Shortages: beliefs as masks, each with a fuel that isn't enough for it."""

from moonfall.masks import bits


class Shortages:
    """Asked for one that lies within a belief, without going through all: each is kept by its least standing."""

    def __init__(self):
        self._by_least = {}

    def put(self, mask, fuel):
        """Some fuel isn't enough for a belief."""
        least = (mask & -mask).bit_length() - 1
        self._by_least.setdefault(least, []).append((mask, fuel))

    def has_within(self, mask, fuel):
        """Whether no less than some fuel isn't enough for some belief within one."""
        for number in bits(mask):
            for lot, short in self._by_least.get(number, []):
                if short >= fuel and not lot & ~mask:
                    return True
        return False
