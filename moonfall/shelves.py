"""Shelves of masks, asked for those around a mask or within it without going through all."""

from moonfall.masks import bits


class Shelf:
    """Masks of numbers below many, by the places at which they were put."""

    def __init__(self, many):
        self._everywhere = 0
        self._having = [0] * many

    def put(self, mask):
        """Put one mask more."""
        place = self._everywhere + 1
        for number in bits(mask):
            self._having[number] |= place
        self._everywhere |= place

    def first_around(self, mask):
        """The place of the first one that has all bits of a mask; None without any."""
        left = self._everywhere
        for number in bits(mask):
            left &= self._having[number]
        return (left & -left).bit_length() - 1 if left else None

    def has_within(self, mask):
        """Whether all bits of some one are bits of a mask."""
        left = self._everywhere
        for number, places in enumerate(self._having):
            if not mask >> number & 1:
                left &= ~places
        return left != 0
