"""Parting: the greatest lots that are let, and the least that aren't, where with a lot each part of it is let."""

from moonfall.masks import bits, greatest_of, mask_of
from moonfall.transversals import meeting_too


class Parting:
    """Lots are masks; a judge tells of each one, by its `lets`, whether it is let.

    Each single thing is let; `likes` has for each the mask of those with which it is let, itself too.
    """

    def __init__(self, judge, likes, budget):
        self.judge = judge
        self.likes = likes
        self.budget = budget

    def parted(self):
        """The greatest lots that are let, and the least ones that aren't: two lists."""
        lots = []
        barred = []
        for number, likes in enumerate(self.likes):
            bit = 1 << number
            barred.extend([bit | 1 << other for other in bits((bit - 1) & ~likes)])
            bases = greatest_of([lot & likes for lot in lots] + [0])
            grown = self._grown_by(bit, bases, barred)
            known = {lot: True for lot in grown}
            lots = [lot for lot in lots if lot | bit not in known] + grown
        return lots, barred

    def _grown_by(self, bit, bases, barred):
        """The greatest lots that are let and have one thing more than what lies within some bases.

        What is beyond such a lot has a thing of each lot that isn't let. So what is tried is what is beyond none but
        these; if it isn't let, one lot more is known that isn't.
        """
        beyond = [(bit - 1) & ~base for base in bases]
        at = 0
        while at < len(beyond):
            lot = (2 * bit - 1) & ~beyond[at]
            if self.judge.lets(lot):
                at += 1
            else:
                barred.append(self._least_barred(lot, bit))
                # What was tried and is let stays ahead.
                beyond = meeting_too(beyond, barred[-1] & ~bit, self.budget)
        return [(2 * bit - 1) & ~mask for mask in beyond]

    def _least_barred(self, lot, bit):
        """A least part of a lot that isn't let, while one thing of it is, by its bit."""
        least = bit
        others = bits(lot & ~bit)
        while self.judge.lets(least):
            # Of the first others as few as can be, with which it isn't: the last of them is needed.
            low = 1
            high = len(others)
            while low < high:
                many = (low + high) // 2
                if self.judge.lets(least | mask_of(others[:many])):
                    low = many + 1
                else:
                    high = many
            least |= 1 << others[low - 1]
            others = others[:low - 1]
        return least
