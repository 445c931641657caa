"""Transversals: the least masks that meet each of some masks."""

from moonfall.masks import bits, count_bits


def least_transversals(masks, budget):
    """The list of the least masks that have a bit in common with each of some masks."""
    found = [0]
    for _, mask in sorted([(count_bits(mask), mask) for mask in masks]):
        meeting = [each for each in found if each & mask]
        missing = [each for each in found if not each & mask]
        found = list(meeting)
        for number in bits(mask):
            bit = 1 << number
            # With the bit, one that misses the mask is no least one if, with it, one that meets the mask is within.
            rivals = [each & ~bit for each in meeting if each & bit]
            for each in missing:
                budget.spend()
                if not _is_beyond_any(each, rivals):
                    found.append(each | bit)
    return found


def _is_beyond_any(mask, others):
    for other in others:
        if not other & ~mask:
            return True
    return False
