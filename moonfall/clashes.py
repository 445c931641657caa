"""Clashes: standings of a sky that are alike but not near; found without looking at all pairs."""

from moonfall.likeness import Likeness
from moonfall.masks import bits, count_bits
from moonfall.reading import is_near, spread


def are_far(standings, reach):
    """Whether some two of some standings are not near one another."""
    least = spread(standings)
    return least is None or least > reach


class Clashes:
    """All standings of a sky, and which of them are alike."""

    def __init__(self, sky):
        self.sky = sky
        self.everywhere = sky.standings()
        self.likeness = Likeness(sky)
        self._votes = {}
        self._differences = {}

    def keep(self, kept, slack):
        """Go on with a mask of the craters that are kept, and with a slack."""
        self.likeness.kept = kept
        self.likeness.slack = slack
        self._differences = {}

    def blind(self):
        """The standings that are blind, ascending."""
        return [standing for standing in self.everywhere if self.likeness.is_blind(standing)]

    def _differences_to(self, axis, one, turn):
        """How far from one's shift those of another turn can be along an axis, ascending.

        Enough of the craters surely in at the one standing must have a partner along this axis alone.
        """
        sure = self.likeness.sure(one)
        key = (axis, one[0], turn, sure)
        if key not in self._differences:
            votes = {}
            for number in bits(sure):
                for difference in self._votes_of(axis, number, one[0], turn):
                    votes[difference] = votes.get(difference, 0) + 1
            least = count_bits(sure) - self.likeness.slack
            self._differences[key] = sorted([difference for difference in votes if votes[difference] >= least])
        return self._differences[key]

    def _votes_of(self, axis, number, one_turn, turn):
        """The unlike differences, within the area, at which a crater has a partner along an axis.

        Whether that partner is kept isn't asked: so what is found holds with other craters kept, too.
        """
        key = (axis, number, one_turn, turn)
        if key not in self._votes:
            chart = self.likeness.chart
            here = chart.places_along(axis, one_turn)[number]
            there = chart.places_along(axis, turn)
            partners = bits(chart.of_size(self.sky.ground.craters[number][2]))
            self._votes[key] = self._around(axis, sorted([here - there[partner] for partner in partners]))
        return self._votes[key]

    def _around(self, axis, middles):
        """The unlike differences, within the area, at which places around some middles meet."""
        span = self.sky.area[2 * axis + 1] - self.sky.area[2 * axis]
        reach = 2 * self.sky.camera.error
        found = []
        begin = -span
        for middle in middles:
            end = min(span, middle + reach) + 1
            found.extend(list(range(max(begin, middle - reach), end)))
            begin = max(begin, end)
        return found

    def _candidates(self, one):
        """All standings that can be alike to one, and perhaps others, ascending."""
        if self.likeness.is_blind(one):
            return self.everywhere
        low_a, high_a, low_b, high_b = self.sky.area
        found = []
        for turn in self.sky.turns:
            shifts_b = [one[2] + difference for difference in self._differences_to(1, one, turn)]
            inner_b = [b for b in shifts_b if low_b <= b <= high_b]
            for difference in self._differences_to(0, one, turn):
                a = one[1] + difference
                if low_a <= a <= high_a:
                    found.extend([(turn, a, b) for b in inner_b])
        return found

    def alike_to(self, one):
        """The standings that are alike to one, ascending."""
        return [other for other in self._candidates(one) if self.likeness.are_alike(one, other)]

    def _has_far(self, one, reach):
        """Whether some standing is not near one of the sky."""
        low_a, high_a, low_b, high_b = self.sky.area
        farthest = max([one[1] - low_a, high_a - one[1], one[2] - low_b, high_b - one[2]])
        return len(self.sky.turns) > 1 or farthest > reach

    def clashing(self, one, reach):
        """The standings that are alike to one but not near it, ascending."""
        if not self._has_far(one, reach):
            return []
        far = [other for other in self._candidates(one) if not is_near(one, other, reach)]
        return [other for other in far if self.likeness.are_alike(one, other)]

    def first_clashing(self, one, reach, least):
        """The first of those from a least one on; None without any."""
        if not self._has_far(one, reach):
            return None
        for other in self._candidates(one):
            if other >= least and not is_near(one, other, reach) and self.likeness.are_alike(one, other):
                return other
        return None

    def least_pair(self, reach):
        """The least pair of standings that are alike but not near, one before other; None without any."""
        for one in self.everywhere:
            other = self.first_clashing(one, reach, one)
            if other is not None:
                return one, other
        return None
