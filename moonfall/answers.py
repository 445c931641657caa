"""One picture for many standings: the greatest lots of a belief that some picture fits."""

from moonfall.budgets import Budget
from moonfall.commons import common_points, owed_by
from moonfall.fitting import fits_by
from moonfall.likeness import Likeness
from moonfall.masks import bits, is_within, mask_of
from moonfall.parting import Parting
from moonfall.shelves import Shelf
from moonfall.spots import Spots


def common_picture(sky, lot, most):
    """A picture that fits all of some standings of the sky; None without any."""
    album = _album_of(sky, lot, most)
    everyone = (1 << len(album.belief)) - 1
    if not all([is_within(everyone, likes) for likes in album.likes]):
        return None
    return album.picture(everyone)


def answers(sky, belief, most):
    """The list of the pairs (lot, picture) of the greatest lots out of a belief that some picture fits."""
    album = _album_of(sky, belief, most)
    lots, _ = album.parted()
    return sorted([(album.standings_of(lot), album.picture(lot)) for lot in lots])


def greatest_lots(likeness, standings, budget):
    """The lots of these alone, of unlike standings of a sky, by the rule of that sky."""
    album = Album(likeness, standings, budget)
    lots, _ = album.parted()
    return [album.standings_of(lot) for lot in lots]


def least_barred_lots(likeness, standings, budget):
    """The least lots of unlike standings of a sky that no picture fits."""
    album = Album(likeness, standings, budget)
    _, barred = album.parted()
    found = []
    for lot in barred:
        for choice in album.choices_of(lot):
            budget.spend()
            found.append(choice)
    return found


def _album_of(sky, standings, most):
    for standing in standings:
        sky.check_standing(standing)
    budget = Budget(most)
    budget.spend()
    return Album(Likeness(sky), standings, budget)


def _twins_among(sky, standings):
    """The lists of standings at which just the same can be seen: a picture fits all of a list, or none of it."""
    twins = {}
    for standing in sorted(set(standings)):
        seen = tuple(sorted([(x, y, size) for x, y, size in sky.places(standing) if sky.camera.is_maybe(x, y)]))
        twins.setdefault(seen, []).append(standing)
    return list(twins.values())


class Album:
    """Pictures for the lots of a belief, which has one standing of each list of twins; what was found is kept.

    Lots are masks of the places in this belief.
    """

    def __init__(self, likeness, standings, budget):
        self.chart = likeness.chart
        self._twins = _twins_among(likeness.sky, standings)
        self.belief = [twins[0] for twins in self._twins]
        self.spots = Spots(likeness.sky, self.belief)
        self.budget = budget
        self.likes = _likes_among(likeness, self.belief)
        self._pictures = []
        self._fitted = Shelf(len(self.belief))
        self._barred = Shelf(len(self.belief))

    def standings_of(self, lot):
        """The ascending tuple of the standings of a lot, all twins too."""
        return tuple(sorted([standing for number in bits(lot) for standing in self._twins[number]]))

    def choices_of(self, lot):
        """The ascending tuples of standings that have just one of all twins each."""
        choices = [()]
        for number in bits(lot):
            choices = [(*choice, standing) for choice in choices for standing in self._twins[number]]
        return [tuple(sorted(choice)) for choice in choices]

    def picture(self, lot):
        """A picture that fits a lot whose standings are alike two by two; None without any."""
        at = self._fitted.first_around(lot)
        if at is not None:
            return self._pictures[at]
        if self._barred.has_within(lot):
            return None
        picture = common_points(self.spots, owed_by(self.spots, bits(lot)), self.budget)
        if picture is None:
            self._barred.put(lot)
        else:
            self._pictures.append(picture)
            self._fitted.put(self._fitted_by(picture))
        return picture

    def _fitted_by(self, picture):
        """The lot of all of the belief that a picture fits."""
        fitted = [fits_by(self.chart, picture, standing) for standing in self.belief]
        return mask_of([number for number, is_fitted in enumerate(fitted) if is_fitted])

    def lets(self, lot):
        """Whether some picture fits a lot whose standings are alike two by two."""
        return self.picture(lot) is not None

    def parted(self):
        """The greatest lots of the belief that have a picture, and the least ones that have none: two lists."""
        return Parting(self, self.likes, self.budget).parted()


def _likes_among(likeness, belief):
    """For each standing of a belief the mask of those that are alike to it, itself too."""
    likes = [1 << number for number in range(len(belief))]
    for number, one in enumerate(belief):
        for other in range(number):
            if likeness.are_alike(one, belief[other]):
                likes[number] |= 1 << other
                likes[other] |= 1 << number
    return likes
