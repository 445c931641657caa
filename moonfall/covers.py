"""Covers: all least lots of a belief that no picture fits, each with its refusal; and what they leave free."""

from moonfall.answers import least_barred_lots
from moonfall.budgets import Budget
from moonfall.likeness import Likeness
from moonfall.masks import bits, mask_of
from moonfall.refusals import refusal_by, shows_by
from moonfall.transversals import least_transversals
from moonfall.whole import is_triple


def cover(sky, belief, most):
    """The tuple of the pairs (lot, refusal) of all least lots out of a belief that no picture fits."""
    for standing in belief:
        sky.check_standing(standing)
    budget = Budget(most)
    budget.spend()
    standings = sorted(set(belief))
    ranked = sorted([(len(lot), lot) for lot in least_barred_lots(Likeness(sky), standings, budget)])
    return tuple([(lot, refusal_by(sky, lot, budget)) for _, lot in ranked])


def shows_cover(sky, belief, cover):
    """Whether anybody's thing is a tuple of lots of a belief, each with its refusal."""
    if not isinstance(cover, tuple):
        return False
    believed = {standing: True for standing in belief}
    return all([_is_lot_refused(sky, believed, pair) for pair in cover])


def _is_lot_refused(sky, believed, pair):
    if not isinstance(pair, tuple) or len(pair) != 2:
        return False
    lot, paper = pair
    if not isinstance(lot, tuple) or not lot:
        return False
    if not all([is_triple(standing) and standing in believed for standing in lot]):
        return False
    return shows_by(sky, lot, paper)


def free_lots(belief, cover, most):
    """The ascending list of the greatest lots out of a belief, not empty, in which no lot of a cover lies wholly."""
    budget = Budget(most)
    budget.spend()
    standings = sorted(set(belief))
    number_of = {standing: number for number, standing in enumerate(standings)}
    inner = [lot for lot, _ in cover if all([standing in number_of for standing in lot])]
    masks = [mask_of([number_of[standing] for standing in lot]) for lot in inner]
    everyone = (1 << len(standings)) - 1
    free = [everyone & ~barred for barred in least_transversals(masks, budget)]
    return sorted([tuple([standings[number] for number in bits(lot)]) for lot in free if lot])
