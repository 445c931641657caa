"""Transversals: the least masks that meet each of some masks."""

from moonfall.masks import bits


def least_transversals(masks, budget):
    """The list of the least masks that have a bit in common with each of some masks."""
    found = [0]
    # By their greatest bits: so there are never many more than there are for fewer bits.
    for mask in sorted(masks):
        found = meeting_too(found, mask, budget)
    return found


def meeting_too(found, mask, budget):
    """The same for one mask more. Those that meet it stay ahead, in their order."""
    meeting = [each for each in found if each & mask]
    missing = [each for each in found if not each & mask]
    grown = []
    for number in bits(mask):
        bit = 1 << number
        # With the bit, one that misses the mask is no least one if one that meets the mask is within.
        rivals = [each & ~bit for each in meeting if each & bit]
        for each in missing:
            budget.spend()
            if not _is_beyond_any(each, rivals):
                grown.append(each | bit)
    return meeting + grown


def _is_beyond_any(mask, others):
    for other in others:
        if not other & ~mask:
            return True
    return False
