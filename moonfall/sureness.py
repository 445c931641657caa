"""Sureness: whether a goal is sure from a belief with some fuel, and by which deed."""

from moonfall.beliefs import is_end
from moonfall.budgets import Budget
from moonfall.goals import is_goal, reaches
from moonfall.hints import Hints, in_order
from moonfall.landererrors import BadFlight
from moonfall.ways import Ways

PATIENCE = 100
ENDLESS = 1000000000000000000


def sureness_for(craft, goal, belief, fuel, most):
    """What is asked whenever a craft, a goal, a belief and a fuel are handed in; and the belief as a mask."""
    craft.check_start(belief, fuel)
    if not is_goal(goal):
        raise BadFlight(goal)
    sureness = Sureness(craft, goal, most)
    return sureness, sureness.ways.mask_of_belief(belief)


class Sureness:
    """The search. Beliefs are masks; of each one the least fuel that is known to be enough is kept, and its deed."""

    def __init__(self, craft, goal, most):
        self.budget = Budget(most)
        self.budget.spend()
        self.ways = Ways(craft, most)
        self.goal = goal
        self.deeds = in_order(craft.deeds)
        self.hints = Hints(self.ways, goal)
        self._enough = {}
        self._scarce = {}
        self._patience = 0

    def least_fuel(self, mask, fuel):
        """The least fuel, up to some, with which the goal is sure from a belief; None without any."""
        self._patience = ENDLESS
        for less in range(1, fuel + 1):
            if self._tried(mask, less):
                return less
        return None

    def is_sure(self, mask, fuel):
        """Whether the goal is sure from a belief with some fuel.

        With little fuel not much can be gone through, with all of it more leads to the goal: so both are tried in
        turn, each time longer. What was found is kept.
        """
        patience = PATIENCE
        answer = None
        while answer is None:
            self._patience = patience
            answer = self._tried_from_least(mask, fuel)
            if answer is None:
                self._patience = patience
                answer = self._tried(mask, fuel)
            patience *= 2
        return answer

    def _tried_from_least(self, mask, fuel):
        answer = False
        for less in range(1, fuel + 1):
            answer = self._tried(mask, less)
            if answer is not False:
                return answer
        return answer

    def _tried(self, mask, fuel):
        """Whether the goal is sure from a belief with some fuel; None if patience ends ahead of the answer."""
        if self._scarce.get(mask, 0) >= fuel:
            return False
        if self._row_for(mask, fuel) is not None:
            return True
        if self._patience == 0:
            return None
        self._patience -= 1
        self.budget.spend()
        if self.hints.needed(mask, fuel) <= fuel:
            for at in self._best_first(mask, fuel):
                answer = self._tried_deed(at, mask, fuel)
                if answer:
                    self._note(mask, fuel, at)
                if answer is not False:
                    return answer
        self._scarce[mask] = fuel
        return False

    def _note(self, mask, fuel, at):
        """Keep by which deed the goal is sure; what leads there may have come by with less fuel meanwhile."""
        if mask not in self._enough or self._enough[mask][0] > fuel:
            self._enough[mask] = (fuel, at)

    def _best_first(self, mask, fuel):
        """The numbers of the deeds that may be good: one that ends a flight, or those that seem to need the least."""
        ranked = []
        for at, deed in self.deeds:
            left = fuel - deed.fuel
            if is_end(deed):
                if left >= 0 and reaches(deed, self.goal) and self.ways.behind(at, mask):
                    return [at]
            elif left >= 0:
                needed = self._needed_behind(at, mask, left)
                if needed <= left:
                    ranked.append((deed.fuel + needed, len(ranked), at))
        return [at for _, _, at in sorted(ranked)]

    def _needed_behind(self, at, mask, left):
        """How much fuel seems to be needed behind a deed that ends nothing; more than is left if that isn't enough."""
        deed = self.ways.craft.deeds[at]
        if deed.kind == "look":
            return self.hints.needed_behind_look(deed.aim, mask, left)
        reached = self.ways.behind(at, mask)
        return self.hints.needed(reached, left) if reached else left + 1

    def _tried_deed(self, at, mask, fuel):
        """Whether a deed that may be good makes the goal sure; None if patience ends."""
        deed = self.ways.craft.deeds[at]
        if is_end(deed):
            return True
        lots = self.ways.lots(at, mask)
        # Behind who has all of the belief again there is no more to be done than here, with less fuel.
        if not mask & ~lots[0]:
            return False
        for lot in lots:
            answer = self._tried(lot, fuel - deed.fuel)
            if not answer:
                return answer
        return True

    def _row_for(self, mask, fuel):
        """A belief that is known to be sure with so much fuel, and has all of another one; None without any."""
        known = self._enough.get(mask)
        if known is not None and known[0] <= fuel:
            return mask
        for wider, row in self._enough.items():
            if row[0] <= fuel and not mask & ~wider:
                return wider
        return None

    def rows_from(self, mask, fuel):
        """The rows (belief, fuel, number of a deed) by which it is sure from a belief that is known to be so."""
        deeds = self.ways.craft.deeds
        rows = {}
        waiting = [(mask, fuel)]
        while waiting:
            lot, left = waiting.pop()
            wider = self._row_for(lot, left)
            if wider in rows:
                continue
            least, at = self._enough[wider]
            rows[wider] = (self.ways.belief_of(wider), least, at)
            if not is_end(deeds[at]):
                waiting.extend([(each, least - deeds[at].fuel) for each in self.ways.lots(at, wider)])
        return list(rows.values())
