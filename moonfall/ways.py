"""Ways: where the deeds of a craft lead to, for beliefs as masks; what is asked is kept once it was worked out."""

from moonfall.answers import greatest_lots
from moonfall.beliefs import ends_of, is_end, is_whole_at
from moonfall.budgets import Budget
from moonfall.likeness import Likeness
from moonfall.masks import bits, count_bits, mask_of


class Ways:
    """The deeds of a craft. A standing's bit is the number with which it came."""

    def __init__(self, craft, most):
        self.craft = craft
        self.most = most
        self._standings = []
        self._numbers = {}
        self._ends = {}
        self._lots = {}
        self._likenesses = {}
        self._alike = {}

    def mask_of_belief(self, belief):
        """The mask of some standings."""
        return mask_of([self._number_of(standing) for standing in belief])

    def belief_of(self, mask):
        """The ascending tuple of the standings of a mask."""
        return tuple(sorted([self._standings[number] for number in bits(mask)]))

    def _number_of(self, standing):
        if standing not in self._numbers:
            self._numbers[standing] = len(self._standings)
            self._standings.append(standing)
        return self._numbers[standing]

    def ends(self, at, number):
        """The mask of the ends of a deed, by its number, from one standing; 0 if the craft isn't whole at all of them.

        Where it lands isn't numbered: for landing it is the standing itself.
        """
        key = (at, number)
        if key not in self._ends:
            self._ends[key] = self._ends_at(self.craft.deeds[at], number)
        return self._ends[key]

    def _ends_at(self, deed, number):
        ends = ends_of(self.craft, self._standings[number], deed)
        if not all([is_whole_at(self.craft, deed, end) for end in ends]):
            return 0
        return 1 << number if is_end(deed) else self.mask_of_belief(ends)

    def behind(self, at, mask):
        """The mask of the belief behind a deed; 0 if the craft isn't whole at all ends."""
        found = 0
        for number in bits(mask):
            ends = self.ends(at, number)
            if not ends:
                return 0
            found |= ends
        return found

    def are_alike(self, camera, one, other):
        """Whether two standings, by their numbers, are alike for a camera."""
        key = (camera, one, other)
        if key not in self._alike:
            likeness = self._likeness_by(camera)
            self._alike[key] = likeness.are_alike(self._standings[one], self._standings[other])
        return self._alike[key]

    def lots(self, at, mask):
        """The masks of the beliefs behind a deed that ends nothing, greatest ones first; none unless it keeps whole."""
        key = (at, mask)
        if key not in self._lots:
            self._lots[key] = self._lots_at(at, mask)
        return self._lots[key]

    def _lots_at(self, at, mask):
        deed = self.craft.deeds[at]
        if deed.kind != "look":
            reached = self.behind(at, mask)
            return [reached] if reached else []
        if not mask & (mask - 1):
            # Some picture fits each standing.
            return [mask]
        # As answers tells them, but without pictures, and not asking each time anew what looks alike.
        lots = greatest_lots(self._likeness_by(deed.aim), self.belief_of(mask), Budget(self.most))
        masks = [self.mask_of_belief(lot) for lot in lots]
        return [lot for _, lot in sorted([(-count_bits(lot), lot) for lot in masks])]

    def _likeness_by(self, camera):
        if camera not in self._likenesses:
            self._likenesses[camera] = Likeness(self.craft.skies[camera])
        return self._likenesses[camera]
