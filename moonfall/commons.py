"""A picture that fits all standings of a lot: searched for spot by spot."""

from moonfall.masks import count_bits, greatest_of
from moonfall.matching import can_still_hold, reached, seat_all, turned_about


def common_points(spots, lot, budget):
    """A picture that fits a lot of the standings of some spots, by their places; None without any."""
    search = Search(spots, lot)
    # Of several spots one of which is lacking the first is tried, then the second without the first one, and so on.
    stack = [((), ())]
    while stack:
        chosen, barred = stack.pop()
        budget.spend()
        lacking = search.lacking_spots(chosen, barred)
        if lacking is None:
            return search.picture_of(chosen)
        for at in reversed(range(len(lacking))):
            stack.append(((*chosen, lacking[at]), (*barred, *lacking[:at])))
    return None


class Search:
    """What the search looks up for a lot: spots are told by what they are good for at the lot's standings."""

    def __init__(self, spots, lot):
        self.spots = spots
        self.lot = lot
        self.inside = spots.of_standings(lot)
        self._whole = {}
        self._found = {}

    def picture_of(self, chosen):
        """The spots that were chosen, as an ascending picture."""
        return tuple(sorted([self.spots.point_of(self._whole[mask]) for mask in chosen]))

    def _for_crater(self, at, number):
        """The spots that are good for a crater at a standing, each once."""
        key = (at, number)
        if key not in self._found:
            masks = self.spots.for_crater(at, number)
            self._whole.update({mask & self.inside: mask for mask in masks})
            self._found[key] = greatest_of([mask & self.inside for mask in masks])
        return self._found[key]

    def lacking_spots(self, chosen, barred):
        """Spots that are not barred, one of which must be added to those that are chosen, the best ones first.

        None if the chosen ones are a picture for the lot; no spots if no picture begins with them.
        """
        lacks = []
        holds = []
        for at in self.lot:
            masks = [self.spots.good_here(mask, at) for mask in chosen]
            strange, free_craters = can_still_hold(masks, self.spots.everything)
            if strange == self.spots.camera.false:
                # False points never become fewer: none more is let here, so there are never more than that.
                holds.append((at, free_craters))
            lacking = self._lacking_at(at, turned_about(masks, self.spots.sure(at)))
            if lacking:
                lacks.append(lacking)
        if not lacks:
            return None
        return self._fewest(lacks, holds, barred)

    def _fewest(self, lacks, holds, barred):
        """The shortest of some lists of spots, without those that are barred or one false point too many."""
        fewest = None
        for lacking in lacks:
            let = [mask for mask in lacking if mask not in barred and self._is_held(mask, holds)]
            if fewest is None or len(let) < len(fewest):
                fewest = let
        return [mask for _, mask in sorted([(-count_bits(mask), mask) for mask in fewest])]

    def _is_held(self, mask, holds):
        """Whether a spot can be of some crater at each standing at which it must."""
        for at, free_craters in holds:
            if not self.spots.good_here(mask, at) & free_craters:
                return False
        return True

    def _lacking_at(self, at, rows):
        """The spots one of which a standing lacks; none if it lacks nothing."""
        holder = {}
        left_out = seat_all(rows, list(rows), holder)
        lost = self.spots.camera.lost
        if len(left_out) <= lost:
            return []
        ranked = sorted([(len(self._for_crater(at, number)), number) for number in left_out])
        # These, with all whose points they could take, are one more than may be lost beyond the points they have.
        short = reached([number for _, number in ranked[:lost + 1]], rows, holder)
        found = {}
        for number in short:
            for mask in self._for_crater(at, number):
                found[mask] = True
        return list(found)
