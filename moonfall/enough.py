"""What is known to be enough: beliefs as masks, each with the least fuel known to be enough for it, and its deed."""

from moonfall.crafts import MOST_TANK
from moonfall.masks import bits


class Enough:
    """Asked for a belief that has all of another one, without going through all."""

    def __init__(self):
        self._rows = {}
        self._places = {}
        self._masks = []
        self._having = {}
        self._enough = [0] * (MOST_TANK + 1)

    def put(self, mask, fuel, at):
        """Some fuel is enough for a belief, by a deed; what is known of less fuel stays."""
        known = self._rows.get(mask)
        if known is not None and known[0] <= fuel:
            return
        if known is None:
            self._add(mask)
        for more in range(fuel, MOST_TANK + 1):
            self._enough[more] |= 1 << self._places[mask]
        self._rows[mask] = (fuel, at)

    def _add(self, mask):
        place = len(self._masks)
        self._places[mask] = place
        self._masks.append(mask)
        for number in bits(mask):
            self._having[number] = self._having.get(number, 0) | 1 << place

    def row(self, mask):
        """The least fuel known to be enough for a belief that was put, and its deed."""
        return self._rows[mask]

    def wider(self, mask, fuel):
        """A belief for which some fuel is enough, and that has all of another one; None without any."""
        known = self._rows.get(mask)
        if known is not None and known[0] <= fuel:
            return mask
        left = self._enough[fuel]
        rest = mask
        while rest and left:
            low = rest & -rest
            left &= self._having.get(low.bit_length() - 1, 0)
            rest -= low
        return self._masks[(left & -left).bit_length() - 1] if left else None
