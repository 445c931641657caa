"""How far from alike standings are: with how many lost and false things they would be."""

from moonfall.clashes import Clashes, are_far
from moonfall.likeness import Likeness
from moonfall.masks import count_bits
from moonfall.matching import shortage


def slack_between(sky, one, other):
    """The least sum of lost and false with which two standings of the sky are alike."""
    likeness = Likeness(sky)
    return max([_shortage(likeness.partner_rows(one, other)), _shortage(likeness.partner_rows(other, one))])


def _shortage(rows):
    return shortage([rows[number] for number in rows])


def nearest_pair(sky, reach):
    """The least tuple (slack, one, other) of all pairs that are not near; None without any."""
    clashes = Clashes(sky)
    if not are_far(clashes.everywhere, reach):
        return None
    kept = clashes.likeness.kept
    # With slack for all that is surely in every two are alike; and who is alike stays so with more slack.
    low = 0
    high = max([count_bits(clashes.likeness.sure(standing)) for standing in clashes.everywhere])
    while low < high:
        slack = (low + high) // 2
        clashes.keep(kept, slack)
        if clashes.least_pair(reach) is None:
            low = slack + 1
        else:
            high = slack
    clashes.keep(kept, low)
    one, other = clashes.least_pair(reach)
    return low, one, other


def strength_of(sky, reach):
    """The slack of the nearest pair less 1; None without any pair that is not near."""
    nearest = nearest_pair(sky, reach)
    return None if nearest is None else nearest[0] - 1
