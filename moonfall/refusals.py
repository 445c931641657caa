"""Refusals: papers that no picture fits all of a lot of standings."""

from moonfall.budgets import Budget
from moonfall.commons import Search
from moonfall.cores import least_core
from moonfall.masks import count_bits
from moonfall.matching import short_lot
from moonfall.spots import Spots
from moonfall.whole import are_numbers, is_between, is_whole


def refusal(sky, lot, most):
    """A paper that no picture fits all of a lot; None if some picture does."""
    _check_lot(sky, lot)
    budget = Budget(most)
    budget.spend()
    return refusal_by(sky, lot, budget)


def _check_lot(sky, lot):
    for standing in lot:
        sky.check_standing(standing)


def refusal_by(sky, lot, budget):
    """The same with a budget."""
    spots = Spots(sky, lot)
    core = least_core(sky, spots, lot, budget)
    return None if core is None else Refuser(spots, core, budget).paper()


class Refuser:
    """Makes a paper of a core. What comes behind spots that only differ out of the core is the same."""

    def __init__(self, spots, core, budget):
        self.spots = spots
        self.search = Search(spots, core, True)
        self.budget = budget
        self._steps = {}
        self._papers = {}

    def paper(self):
        """The paper for a picture without points, built from its ends."""
        waiting = [()]
        while waiting:
            row = waiting[-1]
            lacking = [] if row in self._papers else self._lacking_behind(row)
            if lacking:
                waiting.extend(lacking)
            else:
                waiting.pop()
                if row not in self._papers:
                    self._papers[row] = self._written(row)
        return self._papers[()]

    def _lacking_behind(self, row):
        """The rows of spots behind one, for which there is no paper yet."""
        if row not in self._steps:
            self.budget.spend()
            self._steps[row] = self._step(row)
        word, at, numbers = self._steps[row]
        if word == "false":
            return []
        rows = [(*row, mask) for mask in self.search.for_craters(at, numbers)]
        return [longer for longer in rows if longer not in self._papers]

    def _step(self, row):
        """What there is to say when a row of spots was seen."""
        for at in self.search.owed:
            numbers = short_lot(dict(enumerate(self.search.here(row, at))), self.spots.camera.false)
            if numbers is not None:
                return "false", at, numbers
        holds = self.search.holds(row)
        best = None
        for at in self.search.owed:
            numbers = tuple(self.search.short_at(row, at, holds))
            if numbers:
                masks = self.search.for_craters(at, numbers)
                # A spot that isn't let is refused at once.
                cost = (len(self.search.let_by(masks, holds)), len(masks))
                if best is None or cost < best[0]:
                    best = (cost, at, numbers)
        return "lost", best[1], best[2]

    def _written(self, row):
        word, at, numbers = self._steps[row]
        if word == "false":
            return word, at, numbers
        masks = each_for_craters(self.spots, at, numbers)
        goods = [self.spots.told(mask) for mask in masks]
        rows = [(*row, mask & self.search.inside) for mask in masks]
        parts = [self._papers[longer] for longer in rows]
        return word, at, numbers, tuple(list(zip(goods, parts)))


def each_for_craters(spots, at, numbers):
    """What the spots are good for that are good for any of some craters at a standing, each once."""
    return sorted(set([mask for number in numbers for mask in spots.each_for_crater(at, number)]))


def shows_refusal(sky, lot, paper):
    """Whether anybody's thing is such a paper."""
    _check_lot(sky, lot)
    return shows_by(sky, lot, paper)


def shows_by(sky, lot, paper):
    """The same of any standings. The paper is walked without calls within calls, as deep as it may be."""
    spots = Spots(sky, lot)
    waiting = [(paper, ())]
    while waiting:
        part, row = waiting.pop()
        behind = _behind(spots, len(lot), part, row)
        if behind is None:
            return False
        waiting.extend(behind)
    return True


def _behind(spots, many, part, row):
    """The pairs (part, spots so far) behind a part of a paper; None if the part is wrong."""
    if not isinstance(part, tuple) or len(part) < 3 or not isinstance(part[0], str):
        return None
    word, at, numbers = part[:3]
    if not is_between(at, 0, many - 1):
        return None
    if word == "false" and len(part) == 3:
        return [] if _are_false(spots, at, numbers, row) else None
    if word == "lost" and len(part) == 4 and _are_lost(spots, at, numbers, row):
        return _branches(spots, at, numbers, part[3], row)
    return None


def _are_false(spots, at, numbers, row):
    """Whether some spots are more than false more than all craters that any of them is good for at a standing."""
    if not are_numbers(numbers, len(row)):
        return False
    craters = 0
    for number in numbers:
        craters |= spots.good_here(row[number], at)
    return len(numbers) - count_bits(craters) > spots.camera.false


def _are_lost(spots, at, numbers, row):
    """Whether some craters surely in at a standing are more than lost more than all spots good for any of them."""
    if not are_numbers(numbers, spots.many) or not all([number in spots.sure(at) for number in numbers]):
        return False
    good = [mask for mask in row if any([spots.good_here(mask, at) >> number & 1 for number in numbers])]
    return len(numbers) - len(good) > spots.camera.lost


def _branches(spots, at, numbers, branches, row):
    """The pairs behind branches; None unless there is just one for each thing that a spot can be good for."""
    if not isinstance(branches, tuple) or not all([_is_branch(branch) for branch in branches]):
        return None
    masks = {spots.told(mask): mask for mask in each_for_craters(spots, at, numbers)}
    unlike = {good: True for good, _ in branches}
    if len(branches) != len(masks) or len(unlike) != len(masks) or not all([good in masks for good in unlike]):
        return None
    return [(part, (*row, masks[good])) for good, part in branches]


def _is_branch(thing):
    """Whether a thing is a pair of a tuple of pairs of integers and something."""
    if not isinstance(thing, tuple) or len(thing) != 2 or not isinstance(thing[0], tuple):
        return False
    return all([_is_pair(pair) for pair in thing[0]])


def _is_pair(thing):
    return isinstance(thing, tuple) and len(thing) == 2 and is_whole(thing[0]) and is_whole(thing[1])
