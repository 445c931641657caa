"""The greatest lots of things no two of which are linked."""

from moonfall.masks import bits, count_bits


class Network:
    """Things by numbers; `links` has for each the mask of those to which it is linked."""

    def __init__(self, links, budget):
        self.links = links
        self.budget = budget
        self._known = {}

    def least_greatest(self):
        """The least ascending list among the longest ones without two linked things."""
        chosen = []
        for part in self._parts((1 << len(self.links)) - 1):
            chosen.extend(self._least_within(part))
        return sorted(chosen)

    def _least_within(self, part):
        chosen = []
        left = part
        many = self._most(left)
        while left:
            low = left & -left
            left -= low
            number = low.bit_length() - 1
            behind = left & ~self.links[number]
            if 1 + self._most(behind) == many:
                chosen.append(number)
                left = behind
                many -= 1
        return chosen

    def _parts(self, mask):
        """The masks of what hangs together by links within a mask."""
        parts = []
        while mask:
            part = 0
            edge = mask & -mask
            while edge:
                part |= edge
                near = 0
                for number in bits(edge):
                    near |= self.links[number]
                edge = near & mask & ~part
            parts.append(part)
            mask &= ~part
        return parts

    def _most(self, mask):
        """How many things the greatest lots within a mask have."""
        if mask not in self._known:
            self._known[mask] = sum([self._most_together(part) for part in self._parts(mask)])
        return self._known[mask]

    def _most_together(self, part):
        """The same for a part that hangs together."""
        chosen = 0
        best = 0
        while chosen + self._bound(part) > best:
            free = self._free_thing(part)
            if free is not None:
                chosen += 1
                part &= ~(self.links[free] | 1 << free)
                best = max(best, chosen)
                continue
            if len(self._parts(part)) > 1:
                return max(best, chosen + self._most(part))
            # Either a thing is chosen, and none that is linked to it; or it is not: that is looked at next.
            self.budget.spend()
            busy = self._busiest(part)
            part &= ~(1 << busy)
            best = max(best, chosen + 1 + self._most(part & ~self.links[busy]))
        return best

    def _free_thing(self, part):
        """The first thing all of whose neighbours are linked to one another; None without any.

        A greatest lot has one of it and its neighbours, and may have it as well as any of them.
        """
        for number in bits(part):
            around = self.links[number] & part
            if self._are_all_linked(around):
                return number
        return None

    def _are_all_linked(self, mask):
        left = mask
        while left:
            low = left & -left
            left -= low
            if mask & ~self.links[low.bit_length() - 1] != low:
                return False
        return True

    def _busiest(self, part):
        """The first thing with the most links within a part."""
        found = None
        most = -1
        for number in bits(part):
            many = count_bits(self.links[number] & part)
            if many > most:
                found, most = number, many
        return found

    def _bound(self, part):
        """Not fewer than the greatest lots have: lots all of whose things are linked give one each at most."""
        many = 0
        while part:
            many += 1
            linked = part
            while linked:
                low = linked & -linked
                part &= ~low
                linked &= self.links[low.bit_length() - 1]
        return many
