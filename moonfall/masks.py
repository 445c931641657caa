"""Masks: lots of numbers from 0 on, a bit for each."""


def bits(mask):
    """The ascending numbers of the bits of a mask."""
    numbers = []
    while mask:
        low = mask & -mask
        numbers.append(low.bit_length() - 1)
        mask -= low
    return numbers


def mask_of(numbers):
    """The mask with the bits of some numbers."""
    mask = 0
    for number in numbers:
        mask |= 1 << number
    return mask


def count_bits(mask):
    """How many bits a mask has."""
    return f"{mask:b}".count("1")


def is_within(mask, other):
    """Whether all bits of a mask are bits of another one."""
    return not mask & ~other


def is_within_any(mask, others):
    """Whether a mask lies within one of some others."""
    for other in others:
        if not mask & ~other:
            return True
    return False


def greatest_of(masks):
    """Those of some masks that lie within no other one, each once, those with more bits first."""
    greatest = []
    for _, mask in sorted([(-count_bits(mask), mask) for mask in masks]):
        if not is_within_any(mask, greatest):
            greatest.append(mask)
    return greatest
