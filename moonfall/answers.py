"""One picture for many standings: the greatest lots of a belief that some picture fits."""

from moonfall.budgets import Budget
from moonfall.charts import Chart
from moonfall.commons import common_points, owed_by
from moonfall.fitting import fits_by
from moonfall.likeness import Likeness
from moonfall.masks import bits, greatest_of, is_within, is_within_any, mask_of
from moonfall.spots import Spots


def common_picture(sky, lot, most):
    """A picture that fits all of some standings of the sky; None without any."""
    album = _album_of(sky, lot, most)
    everyone = (1 << len(album.belief)) - 1
    if not all([is_within(everyone, likes) for likes in album.likes]):
        return None
    return album.picture(everyone)


def answers(sky, belief, most):
    """The list of the pairs (lot, picture) of the greatest lots out of a belief that some picture fits."""
    album = _album_of(sky, belief, most)
    lots = album.greatest_lots()
    return sorted([(tuple([album.belief[number] for number in bits(lot)]), album.picture(lot)) for lot in lots])


def _album_of(sky, standings, most):
    for standing in standings:
        sky.check_standing(standing)
    budget = Budget(most)
    budget.spend()
    return Album(sky, sorted(set(standings)), budget)


class Album:
    """Pictures for the lots of a belief, which are masks of the places in it; what was found is kept."""

    def __init__(self, sky, belief, budget):
        self.chart = Chart(sky)
        self.spots = Spots(sky, belief)
        self.belief = belief
        self.budget = budget
        self.likes = _likes_among(sky, belief)
        self._found = []
        # By the greatest number in them: what is asked grows standing by standing, so others can't be in it.
        self._barred = [[] for _ in belief]

    def picture(self, lot):
        """A picture that fits a lot whose standings are alike two by two; None without any."""
        for wider, picture in self._found:
            if not lot & ~wider:
                return picture
        if self._is_barred(lot):
            return None
        picture = common_points(self.spots, owed_by(self.spots, bits(lot)), self.budget)
        if picture is None:
            self._bar(lot)
        else:
            fitted = self._fitted_by(picture)
            self._found = [row for row in self._found if not is_within(row[0], fitted)] + [(fitted, picture)]
        return picture

    def _is_barred(self, lot):
        """Whether a lot is known to have no picture."""
        for barred in self._barred[lot.bit_length() - 1] if lot else []:
            if not barred & ~lot:
                return True
        return False

    def _bar(self, lot):
        """A lot is known to have no picture from now on."""
        last = lot.bit_length() - 1
        self._barred[last] = [barred for barred in self._barred[last] if not is_within(lot, barred)] + [lot]

    def _fitted_by(self, picture):
        """The lot of all of the belief that a picture fits."""
        fitted = [fits_by(self.chart, picture, standing) for standing in self.belief]
        return mask_of([number for number, is_fitted in enumerate(fitted) if is_fitted])

    def greatest_lots(self):
        """The greatest lots of the belief that have a picture: standing by standing, those of the ones so far."""
        lots = []
        for number, likes in enumerate(self.likes):
            grown = [1 << number]
            for base in greatest_of([lot & likes for lot in lots]):
                grown.extend(self._greatest_with(number, base))
            lots = greatest_of(lots + grown)
        return lots

    def _greatest_with(self, number, base):
        """The greatest lots, and perhaps others, that have a picture, out of one that has, with one more standing."""
        bit = 1 << number
        found = []
        stack = [base]
        seen = set()
        while stack:
            lot = stack.pop()
            if is_within_any(lot | bit, found):
                continue
            if self.picture(lot | bit) is not None:
                found.append(lot | bit)
                continue
            for other in bits(self._least_barred(lot, bit)):
                less = lot & ~(1 << other)
                if less not in seen:
                    seen.add(less)
                    stack.append(less)
        return found

    def _least_barred(self, lot, bit):
        """A least part of a lot, which has a picture, that with one more standing has none."""
        for other in bits(lot):
            less = lot & ~(1 << other)
            if self.picture(less | bit) is None:
                lot = less
        self._bar(lot | bit)
        return lot


def _likes_among(sky, belief):
    """For each standing of a belief the mask of those that are alike to it, itself too."""
    likeness = Likeness(sky)
    likes = [1 << number for number in range(len(belief))]
    for number, one in enumerate(belief):
        for other in range(number):
            if likeness.are_alike(one, belief[other]):
                likes[number] |= 1 << other
                likes[other] |= 1 << number
    return likes
