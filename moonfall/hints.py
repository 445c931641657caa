"""Hints: what would be sure for who is told more. Nothing is sure that isn't so here: so much is soon given up."""

from moonfall.beliefs import is_end
from moonfall.goals import reaches
from moonfall.masks import bits

# In which order deeds are tried: what ends a flight needs nothing more, and looks only make beliefs less.
ORDER = ("land", "away", "look", "step", "turn")
# Of beliefs up to so many standings all pairs are asked.
MANY = 40


def in_order(deeds):
    """The pairs (number, deed) in the order in which they are tried."""
    ranked = sorted([(ORDER.index(deed.kind), number) for number, deed in enumerate(deeds)])
    return [(number, deeds[number]) for _, number in ranked]


class Hints:
    """For who is always told two standings at one of which one is, and does some deeds, in their order.

    One standing is a pair of it with itself. Whoever is sure of a belief is so of each pair within it.
    """

    def __init__(self, ways, goal, deeds):
        self.ways = ways
        self.goal = goal
        self.deeds = deeds
        self._enough = {}
        self._scarce = {}

    def needed(self, mask, fuel):
        """How much fuel seems to be needed to be sure of a belief; more than some fuel just if that isn't enough."""
        return self._needed_by(self._pairs_of(mask), fuel)

    def needed_behind_look(self, camera, mask, fuel):
        """The same behind a look, whatever is seen."""
        return self._needed_by(self._pairs_behind_look(camera, mask), fuel)

    def scarce_pair(self, mask, fuel):
        """The first pair that is asked of a belief for which some fuel isn't enough; None without any."""
        return self._first_scarce(self._pairs_of(mask), fuel)

    def scarce_pair_behind_look(self, camera, mask, fuel):
        """The same behind a look: some picture fits both."""
        return self._first_scarce(self._pairs_behind_look(camera, mask), fuel)

    def scarce_fuel(self, pair):
        """The most fuel that is known not to be enough for a pair."""
        return self._scarce.get(pair, 0)

    def _first_scarce(self, pairs, fuel):
        for pair in pairs:
            if not self._is_sure(pair, fuel):
                return pair
        return None

    def _pairs_behind_look(self, camera, mask):
        """The pairs that are asked of what can be seen: both of a pair are believed only where they look alike."""
        return [(one, other) for one, other in self._pairs_of(mask)
                if one == other or self.ways.are_alike(camera, one, other)]

    def _needed_by(self, pairs, fuel):
        most = 0
        for pair in pairs:
            if not self._is_sure(pair, fuel):
                return fuel + 1
            most = max(most, self._enough[pair])
        return most

    def _pairs_of(self, mask):
        """The pairs that are asked of a belief: of a great one only those of neighbours."""
        numbers = bits(mask)
        pairs = [(number, number) for number in numbers]
        reach = len(numbers) if len(numbers) <= MANY else 1
        for at, number in enumerate(numbers):
            pairs.extend([(number, other) for other in numbers[at + 1:at + 1 + reach]])
        return pairs

    def _is_sure(self, pair, fuel):
        """Whether the goal would be sure from a pair: with little fuel, with which not much is gone through, first."""
        if pair in self._enough and self._enough[pair] <= fuel:
            return True
        scarce = self._scarce.get(pair, 0)
        for less in range(scarce + 1, fuel + 1):
            if self._is_sure_with(pair, less):
                return True
        return False

    def _is_sure_with(self, pair, fuel):
        if pair in self._enough and self._enough[pair] <= fuel:
            return True
        if self._scarce.get(pair, 0) >= fuel:
            return False
        for at, deed in self.deeds:
            if deed.fuel <= fuel and self._is_good(at, deed, pair, fuel - deed.fuel):
                self._enough[pair] = min(fuel, self._enough.get(pair, fuel))
                return True
        self._scarce[pair] = fuel
        return False

    def _is_good(self, at, deed, pair, left):
        one, other = pair
        if deed.kind == "look":
            # Who sees nothing new has lost fuel alone; so has, below, who comes back to where one was.
            if one == other or self.ways.are_alike(deed.aim, one, other):
                return False
            return self._is_sure_with((one, one), left) and self._is_sure_with((other, other), left)
        first = self.ways.ends(at, one)
        second = self.ways.ends(at, other)
        if not first or not second:
            return False
        if is_end(deed):
            return reaches(deed, self.goal)
        mask = first | second
        if mask >> one & mask >> other & 1:
            return False
        for each in self._pairs_of(mask):
            if not self._is_sure_with(each, left):
                return False
        return True
