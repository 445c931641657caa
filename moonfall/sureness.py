"""Sureness: whether a goal is sure from a belief with some fuel, and by which deed."""

from moonfall.beliefs import is_end
from moonfall.budgets import Budget, Patience
from moonfall.enough import Enough
from moonfall.goals import is_goal, reaches
from moonfall.hints import Hints, in_order
from moonfall.landererrors import BadFlight
from moonfall.ways import Ways

PATIENCE = 100
ENDLESS = 1000000000000000000


def sureness_for(craft, goal, belief, fuel, most):
    """What is asked whenever a craft, a goal, a belief and a fuel are handed in; and the belief as a mask."""
    craft.check_start(belief, fuel)
    sureness = sureness_of(craft, goal, most)
    return sureness, sureness.ways.mask_of_belief(belief)


def sureness_of(craft, goal, most):
    """What is asked whenever a craft and a goal are handed in."""
    if not is_goal(goal):
        raise BadFlight(goal)
    budget = Budget(most)
    budget.spend()
    return Sureness(Hints(Ways(craft, most), goal, in_order(craft.deeds)), budget, Patience())


class Sureness:
    """The search, by the deeds of some hints. Beliefs are masks.

    Of each one the least fuel that is known to be enough is kept, with its deed, and the most that is known not to be.
    """

    def __init__(self, hints, budget, patience):
        self.hints = hints
        self.budget = budget
        self.patience = patience
        self.ways = hints.ways
        self.goal = hints.goal
        self.deeds = hints.deeds
        # What is asked of what is seen; where looks are counted it is another search.
        self.behind_looks = self
        self._enough = Enough()
        self._scarce = {}

    def least_fuel(self, mask, fuel):
        """The least fuel, up to some, with which the goal is sure from a belief; None without any."""
        self.patience.left = ENDLESS
        for less in range(1, fuel + 1):
            if self.tried(mask, less):
                return less
        return None

    def is_sure(self, mask, fuel):
        """Whether the goal is sure from a belief with some fuel.

        With little fuel not much can be gone through, with all of it more leads to the goal: so both are tried in
        turn, each time longer. What was found is kept.
        """
        patience = PATIENCE
        answer = None
        while answer is None:
            self.patience.left = patience
            answer = self._tried_from_least(mask, fuel)
            if answer is None:
                self.patience.left = patience
                answer = self.tried(mask, fuel)
            patience *= 2
        return answer

    def _tried_from_least(self, mask, fuel):
        answer = False
        for less in range(1, fuel + 1):
            answer = self.tried(mask, less)
            if answer is not False:
                return answer
        return answer

    def tried(self, mask, fuel):
        """Whether the goal is sure from a belief with some fuel; None if patience ends ahead of the answer."""
        if self._scarce.get(mask, 0) >= fuel:
            return False
        if self._enough.wider(mask, fuel) is not None:
            return True
        if self.patience.left == 0:
            return None
        self.patience.left -= 1
        self.budget.spend()
        if self.hints.needed(mask, fuel) <= fuel:
            for at in self._best_first(mask, fuel):
                answer = self._tried_deed(at, mask, fuel)
                if answer:
                    # What leads there may have come by with less fuel meanwhile.
                    self._enough.put(mask, fuel, at)
                if answer is not False:
                    return answer
        self._scarce[mask] = fuel
        return False

    def _best_first(self, mask, fuel):
        """The numbers of the deeds that may be good: one that ends a flight, or those that seem to need the least."""
        ranked = []
        for at, deed in self.deeds:
            left = fuel - deed.fuel
            if is_end(deed):
                if left >= 0 and reaches(deed, self.goal) and self.ways.behind(at, mask):
                    return [at]
            elif left >= 0:
                needed = self._needed_behind(at, mask, left)
                if needed <= left:
                    ranked.append((deed.fuel + needed, len(ranked), at))
        return [at for _, _, at in sorted(ranked)]

    def _needed_behind(self, at, mask, left):
        """How much fuel seems to be needed behind a deed that ends nothing; more than is left if that isn't enough."""
        deed = self.ways.craft.deeds[at]
        if deed.kind == "look":
            return self.hints.needed_behind_look(deed.aim, mask, left)
        reached = self.ways.behind(at, mask)
        return self.hints.needed(reached, left) if reached else left + 1

    def _tried_deed(self, at, mask, fuel):
        """Whether a deed that may be good makes the goal sure; None if patience ends."""
        deed = self.ways.craft.deeds[at]
        if is_end(deed):
            return True
        lots = self.ways.lots(at, mask)
        search = self.behind_looks if deed.kind == "look" else self
        # Behind who has all of the belief again there is no more to be done than here, with less fuel.
        if not mask & ~lots[0]:
            return False
        for lot in lots:
            answer = search.tried(lot, fuel - deed.fuel)
            if not answer:
                return answer
        return True

    def scarce_fuel(self, mask):
        """The most fuel that is known not to be enough for a belief."""
        return self._scarce.get(mask, 0)

    def rows_from(self, mask, fuel):
        """The rows (belief, fuel, number of a deed) by which it is sure from a belief that is known to be so."""
        deeds = self.ways.craft.deeds
        rows = {}
        waiting = [(mask, fuel)]
        while waiting:
            lot, left = waiting.pop()
            wider = self._enough.wider(lot, left)
            if wider in rows:
                continue
            least, at = self._enough.row(wider)
            rows[wider] = (self.ways.belief_of(wider), least, at)
            if not is_end(deeds[at]):
                waiting.extend([(each, least - deeds[at].fuel) for each in self.ways.lots(at, wider)])
        return list(rows.values())
