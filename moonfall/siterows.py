"""Rows of sites that, as the only craters, fit all looks of a survey: masks of the sites' numbers."""

from moonfall.charts import Chart
from moonfall.grounds import Ground, Sky
from moonfall.masks import bits
from moonfall.matching import lacks_more, turned_about


class SiteRows:
    """The search for such rows: site by site it is decided whether there is a crater."""

    def __init__(self, survey, budget):
        self.camera = survey.camera
        self.budget = budget
        self.many = len(survey.sites)
        self.everything = (1 << self.many) - 1
        chart = Chart(Sky(Ground(survey.sites), survey.camera, (0,), (0, 0, 0, 0)))
        self._points = []
        self._sure = []
        for standing, picture in survey.looks:
            self._points.append([chart.of_point(point, standing) for point in picture])
            self._sure.append(chart.sure(standing))
        numbers = list(range(len(self._points)))
        self._shown = [[at for at in numbers if self._is_shown(at, number)] for number in range(self.many)]
        self._owed = [[at for at in numbers if self._sure[at] >> number & 1] for number in range(self.many)]

    def _is_shown(self, at, number):
        """Whether some point of a look can be of a site."""
        return any([mask >> number & 1 for mask in self._points[at]])

    def _has_enough(self, at, open_sites):
        """Whether all points of a look but the false ones can be put to sites that are craters or may be."""
        return not lacks_more([mask & open_sites for mask in self._points[at]], self.camera.false)

    def _has_not_too_many(self, at, chosen):
        """Whether all craters surely in at a look but the lost ones can be put to its points."""
        sure = bits(self._sure[at] & chosen)
        if len(sure) <= self.camera.lost:
            return True
        rows = turned_about(self._points[at], sure)
        return not lacks_more([rows[number] for number in sure], self.camera.lost)

    def _can_begin(self, inside, outside):
        open_sites = self.everything & ~outside
        looks = list(range(len(self._points)))
        if not all([self._has_enough(at, open_sites) for at in looks]):
            return False
        return all([self._has_not_too_many(at, inside) for at in looks])

    def all_rows(self):
        """All such rows."""
        return self._search(0, 0, True)

    def first_row(self, inside, outside):
        """A row with some sites and without some others; None without any."""
        found = self._search(inside, outside, False)
        return found[0] if found else None

    def _search(self, inside, outside, is_each):
        """The rows with some sites and without some others: each one, or the first one that is found."""
        found = []
        waiting = [(0, inside, outside)] if self._can_begin(inside, outside) else []
        while waiting and (is_each or not found):
            number, chosen, barred = waiting.pop()
            self.budget.spend()
            if number == self.many:
                found.append(chosen)
            else:
                waiting.extend(self._decided(number, chosen, barred))
        return found

    def _decided(self, number, chosen, barred):
        """What to go on with behind a site: without a crater there, and with one, as far as that can be."""
        bit = 1 << number
        if (chosen | barred) & bit:
            return [(number + 1, chosen, barred)]
        further = []
        open_sites = self.everything & ~barred & ~bit
        if all([self._has_enough(at, open_sites) for at in self._shown[number]]):
            further.append((number + 1, chosen, barred | bit))
        if all([self._has_not_too_many(at, chosen | bit) for at in self._owed[number]]):
            further.append((number + 1, chosen | bit, barred))
        return further

    def free_among(self, mask, row):
        """Those of some sites that are in a row but not in another one, or the other way round."""
        free = 0
        for number in bits(mask):
            bit = 1 << number
            if not free & bit:
                other = self.first_row(bit & ~row, bit & row)
                if other is not None:
                    free |= (other ^ row) & mask
        return free
