"""Hopes: deeds behind which keep is sure whatever is seen, and land is for something that may be seen."""

from moonfall.beliefs import is_end, is_kept, outcomes
from moonfall.moreerrors import TooMany
from moonfall.sureness import sureness_of


def is_hopeful(craft, belief, deed, left, most):
    """Whether a deed that ends nothing and keeps whole is such a one, with what fuel is left behind it."""
    if is_end(deed) or not is_kept(craft, belief, deed):
        return False
    try:
        lots = [lot for lot, _ in outcomes(craft, belief, deed, most)]
        return _is_sure_of_all(craft, lots, left, most) and _is_sure_of_any(craft, lots, left, most)
    except TooMany:
        return False


def _is_sure_of_all(craft, lots, left, most):
    """Whether keep is sure from each of some beliefs."""
    sureness = sureness_of(craft, "keep", most)
    for lot in lots:
        if not sureness.is_sure(sureness.ways.mask_of_belief(lot), left):
            return False
    return True


def _is_sure_of_any(craft, lots, left, most):
    """Whether land is sure from one of them."""
    sureness = sureness_of(craft, "land", most)
    for lot in lots:
        if sureness.is_sure(sureness.ways.mask_of_belief(lot), left):
            return True
    return False
