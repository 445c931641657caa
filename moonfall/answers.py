"""One picture for many standings: the greatest lots of a belief that some picture fits."""

from moonfall.budgets import Budget
from moonfall.commons import common_points, owed_by
from moonfall.fitting import fits_by
from moonfall.likeness import Likeness
from moonfall.masks import bits, greatest_of, is_within, mask_of
from moonfall.shelves import Shelf
from moonfall.spots import Spots
from moonfall.transversals import meeting_too


def common_picture(sky, lot, most):
    """A picture that fits all of some standings of the sky; None without any."""
    album = _album_of(sky, lot, most)
    everyone = (1 << len(album.belief)) - 1
    if not all([is_within(everyone, likes) for likes in album.likes]):
        return None
    return album.picture(everyone)


def answers(sky, belief, most):
    """The list of the pairs (lot, picture) of the greatest lots out of a belief that some picture fits."""
    album = _album_of(sky, belief, most)
    lots, _ = album.parted()
    return sorted([(album.standings_of(lot), album.picture(lot)) for lot in lots])


def greatest_lots(likeness, standings, budget):
    """The lots of these alone, of unlike standings of a sky, by the rule of that sky."""
    album = Album(likeness, standings, budget)
    lots, _ = album.parted()
    return [album.standings_of(lot) for lot in lots]


def least_barred_lots(likeness, standings, budget):
    """The least lots of unlike standings of a sky that no picture fits."""
    album = Album(likeness, standings, budget)
    _, barred = album.parted()
    found = []
    for lot in barred:
        for choice in album.choices_of(lot):
            budget.spend()
            found.append(choice)
    return found


def _album_of(sky, standings, most):
    for standing in standings:
        sky.check_standing(standing)
    budget = Budget(most)
    budget.spend()
    return Album(Likeness(sky), standings, budget)


def _twins_among(sky, standings):
    """The lists of standings at which just the same can be seen: a picture fits all of a list, or none of it."""
    twins = {}
    for standing in sorted(set(standings)):
        seen = tuple(sorted([(x, y, size) for x, y, size in sky.places(standing) if sky.camera.is_maybe(x, y)]))
        twins.setdefault(seen, []).append(standing)
    return list(twins.values())


class Album:
    """Pictures for the lots of a belief, which has one standing of each list of twins; what was found is kept.

    Lots are masks of the places in this belief.
    """

    def __init__(self, likeness, standings, budget):
        self.chart = likeness.chart
        self._twins = _twins_among(likeness.sky, standings)
        self.belief = [twins[0] for twins in self._twins]
        self.spots = Spots(likeness.sky, self.belief)
        self.budget = budget
        self.likes = _likes_among(likeness, self.belief)
        self._pictures = []
        self._fitted = Shelf(len(self.belief))
        self._barred = Shelf(len(self.belief))

    def standings_of(self, lot):
        """The ascending tuple of the standings of a lot, all twins too."""
        return tuple(sorted([standing for number in bits(lot) for standing in self._twins[number]]))

    def choices_of(self, lot):
        """The ascending tuples of standings that have just one of all twins each."""
        choices = [()]
        for number in bits(lot):
            choices = [(*choice, standing) for choice in choices for standing in self._twins[number]]
        return [tuple(sorted(choice)) for choice in choices]

    def picture(self, lot):
        """A picture that fits a lot whose standings are alike two by two; None without any."""
        at = self._fitted.first_around(lot)
        if at is not None:
            return self._pictures[at]
        if self._barred.has_within(lot):
            return None
        picture = common_points(self.spots, owed_by(self.spots, bits(lot)), self.budget)
        if picture is None:
            self._barred.put(lot)
        else:
            self._pictures.append(picture)
            self._fitted.put(self._fitted_by(picture))
        return picture

    def _fitted_by(self, picture):
        """The lot of all of the belief that a picture fits."""
        fitted = [fits_by(self.chart, picture, standing) for standing in self.belief]
        return mask_of([number for number, is_fitted in enumerate(fitted) if is_fitted])

    def parted(self):
        """The greatest lots of the belief that have a picture, and the least ones that have none: two lists."""
        lots = []
        barred = []
        for number, likes in enumerate(self.likes):
            bit = 1 << number
            barred.extend([bit | 1 << other for other in bits((bit - 1) & ~likes)])
            bases = greatest_of([lot & likes for lot in lots] + [0])
            grown = self._grown_by(bit, bases, barred)
            known = {lot: True for lot in grown}
            lots = [lot for lot in lots if lot | bit not in known] + grown
        return lots, barred

    def _grown_by(self, bit, bases, barred):
        """The greatest lots with a picture that have one standing more than what lies within some bases.

        What is beyond such a lot has a standing of each lot without a picture. So what is tried is what is beyond
        none but these; if it has no picture, one lot more without one is known.
        """
        beyond = [(bit - 1) & ~base for base in bases]
        at = 0
        while at < len(beyond):
            lot = (2 * bit - 1) & ~beyond[at]
            if self.picture(lot) is None:
                barred.append(self._least_barred(lot, bit))
                # What was tried and has a picture stays ahead.
                beyond = meeting_too(beyond, barred[-1] & ~bit, self.budget)
            else:
                at += 1
        return [(2 * bit - 1) & ~mask for mask in beyond]

    def _least_barred(self, lot, bit):
        """A least part of a lot that has no picture, while it has one without a standing's bit."""
        least = bit
        others = bits(lot & ~bit)
        while self.picture(least) is not None:
            # Of the first others as few as can be, with which there is none: the last of them is needed.
            low = 1
            high = len(others)
            while low < high:
                many = (low + high) // 2
                if self.picture(least | mask_of(others[:many])) is None:
                    high = many
                else:
                    low = many + 1
            least |= 1 << others[low - 1]
            others = others[:low - 1]
        return least


def _likes_among(likeness, belief):
    """For each standing of a belief the mask of those that are alike to it, itself too."""
    likes = [1 << number for number in range(len(belief))]
    for number, one in enumerate(belief):
        for other in range(number):
            if likeness.are_alike(one, belief[other]):
                likes[number] |= 1 << other
                likes[other] |= 1 << number
    return likes
