"""A picture that fits all standings of a lot: searched for spot by spot."""

from moonfall.masks import count_bits, greatest_of
from moonfall.matching import can_still_hold, reached, seat_all, turned_about


def owed_by(spots, lot):
    """For each standing of a lot, by its place, the numbers of the craters surely in."""
    return {at: spots.sure(at) for at in lot}


def common_points(spots, owed, budget):
    """A picture in which all craters owed but those that may be lost are seen at each standing; None without any.

    What is owed is a dict from standings, by their places among those of some spots, to craters surely in there.
    """
    search = Search(spots, owed, False)
    # Of several spots one of which is lacking the first is tried, then the second without the first one, and so on.
    stack = [((), ())]
    while stack:
        chosen, barred = stack.pop()
        budget.spend()
        lacking = search.lacking_spots(chosen, barred)
        if lacking is None:
            return search.picture_of(chosen)
        for at in reversed(range(len(lacking))):
            stack.append(((*chosen, lacking[at]), (*barred, *lacking[:at])))
    return None


class Search:
    """What the search looks up: spots are told by what they are good for at the standings that are owed something."""

    def __init__(self, spots, owed, is_each):
        self.spots = spots
        self.owed = owed
        self.inside = spots.of_standings(list(owed))
        self.is_each = is_each
        self._whole = {}
        self._found = {}

    def picture_of(self, chosen):
        """The spots that were chosen, as an ascending picture."""
        return tuple(sorted([self.spots.point_of(self._whole[mask]) for mask in chosen]))

    def for_crater(self, at, number):
        """The spots that are good for a crater at a standing, each once: the greatest ones, or each one."""
        key = (at, number)
        if key not in self._found:
            if self.is_each:
                masks = self.spots.each_for_crater(at, number)
                self._found[key] = sorted(set([mask & self.inside for mask in masks]))
            else:
                masks = self.spots.for_crater(at, number)
                self._whole.update({mask & self.inside: mask for mask in masks})
                self._found[key] = greatest_of([mask & self.inside for mask in masks])
        return self._found[key]

    def for_craters(self, at, numbers):
        """The spots that are good for any of some craters at a standing, each once."""
        return list({mask: True for number in numbers for mask in self.for_crater(at, number)})

    def here(self, chosen, at):
        """For each of the chosen spots the craters that it is good for at a standing."""
        return [self.spots.good_here(mask, at) for mask in chosen]

    def holds(self, chosen):
        """Pairs (standing, craters): where no false point more is let, one more spot must be of one of these craters.

        False points never become fewer.
        """
        pairs = []
        for at in self.owed:
            strange, free_craters = can_still_hold(self.here(chosen, at), self.spots.everything)
            if strange == self.spots.camera.false:
                pairs.append((at, free_craters))
        return pairs

    def let_by(self, masks, holds):
        """Those of some spots that can be of some crater at each standing at which they must."""
        return [mask for mask in masks if self._is_let(mask, holds)]

    def _is_let(self, mask, holds):
        for at, free_craters in holds:
            if not self.spots.good_here(mask, at) & free_craters:
                return False
        return True

    def short_at(self, chosen, at, holds):
        """Craters owed at a standing, more than may be lost beyond the chosen spots good for any; none without any.

        So one of them must be seen at one more spot. Those with few spots that are let are taken.
        """
        rows = turned_about(self.here(chosen, at), self.owed[at])
        holder = {}
        left_out = seat_all(rows, list(rows), holder)
        lost = self.spots.camera.lost
        if len(left_out) <= lost:
            return []
        ranked = sorted([(len(self.let_by(self.for_crater(at, number), holds)), number) for number in left_out])
        return reached([number for _, number in ranked[:lost + 1]], rows, holder)

    def lacking_spots(self, chosen, barred):
        """Spots that are not barred, one of which must be added to those that are chosen, the best ones first.

        None if the chosen ones are a picture; no spots if no picture begins with them.
        """
        holds = self.holds(chosen)
        fewest = None
        for at in self.owed:
            short = self.short_at(chosen, at, holds)
            if short:
                let = [mask for mask in self.let_by(self.for_craters(at, short), holds) if mask not in barred]
                if fewest is None or len(let) < len(fewest):
                    fewest = let
        if fewest is None:
            return None
        return [mask for _, mask in sorted([(-count_bits(mask), mask) for mask in fewest])]
