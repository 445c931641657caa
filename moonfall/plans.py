"""Plans: rows (belief, fuel, number of a deed) by which a goal is sure."""

from moonfall.beliefs import is_end, is_kept, outcomes
from moonfall.forms import is_row
from moonfall.goals import is_goal, reaches
from moonfall.masks import mask_of
from moonfall.sureness import sureness_for
from moonfall.whole import is_between

MOST_NUMBER = 1000000


def covers(row, belief, fuel):
    """Whether all standings of a belief are a row's, and there is no less fuel than the row's."""
    held = {standing: True for standing in row[0]}
    return fuel >= row[1] and all([standing in held for standing in belief])


def row_covering(plan, belief, fuel):
    """The first row of a plan that covers them; None without any."""
    for row in plan:
        if covers(row, belief, fuel):
            return row
    return None


def deed_by(plan, belief, fuel):
    """The number of this row's deed; None without any."""
    row = row_covering(plan, belief, fuel)
    return None if row is None else row[2]


def plan_for(craft, goal, belief, fuel, most):
    """An ascending plan that shows a goal from a belief with some fuel; None if it isn't sure."""
    sureness, mask = sureness_for(craft, goal, belief, fuel, most)
    return tuple(sorted(sureness.rows_from(mask, fuel))) if sureness.is_sure(mask, fuel) else None


def shows_plan(craft, goal, belief, fuel, plan, most):
    """Whether anybody's thing is a plan that shows a goal from a belief with some fuel."""
    craft.check_start(belief, fuel)
    if not is_goal(goal) or not is_plan(craft, plan):
        return False
    table = Table(plan)
    if not table.is_covered(belief, fuel):
        return False
    for row in plan:
        if not _is_right(craft, goal, row, table, most):
            return False
    return True


def is_plan(craft, thing):
    """Whether a thing has the form of a plan."""
    if not isinstance(thing, tuple) or not all([is_row(craft, row) for row in thing]):
        return False
    return all([is_between(number, 0, MOST_NUMBER) for _, _, number in thing])


def deed_kept(craft, row):
    """The deed of a row, if it is there, the row's fuel is enough for it, and it keeps the craft whole; else None."""
    belief, fuel, number = row
    if number >= len(craft.deeds) or craft.deeds[number].fuel > fuel:
        return None
    deed = craft.deeds[number]
    return deed if is_kept(craft, belief, deed) else None


def _is_right(craft, goal, row, table, most):
    """Whether a row's deed reaches the goal, or leads to nothing but what is covered."""
    deed = deed_kept(craft, row)
    if deed is None or is_end(deed):
        return deed is not None and reaches(deed, goal)
    held = tuple(sorted(set(row[0])))
    lots = [lot for lot, _ in outcomes(craft, held, deed, most)]
    return table.are_covered(lots, row[1] - deed.fuel)


class Table:
    """The beliefs of rows as masks, so that it is soon told what they cover."""

    def __init__(self, rows):
        self._numbers = {}
        self._masks = []
        for row in rows:
            for standing in row[0]:
                self._numbers.setdefault(standing, len(self._numbers))
            self._masks.append((row[1], mask_of([self._numbers[standing] for standing in row[0]])))

    def is_covered(self, belief, fuel):
        """Whether some row covers a belief and a fuel."""
        numbers = [self._numbers.get(standing) for standing in belief]
        if None in numbers:
            return False
        mask = mask_of(numbers)
        for least, wider in self._masks:
            if least <= fuel and not mask & ~wider:
                return True
        return False

    def are_covered(self, beliefs, fuel):
        """Whether each of some beliefs is, with a fuel."""
        for belief in beliefs:
            if not self.is_covered(belief, fuel):
                return False
        return True
