"""Likeness: whether some picture fits two standings, by the rule without pictures."""

from moonfall.charts import Chart
from moonfall.grounds import turned
from moonfall.masks import bits, count_bits
from moonfall.matching import lacks_more


class Likeness:
    """The rule of a sky, for who asks often.

    The slack, and the mask of the craters that are kept on the ground, may be changed between questions.
    """

    def __init__(self, sky):
        self.sky = sky
        self.chart = Chart(sky)
        self.slack = sky.camera.lost + sky.camera.false
        self.kept = (1 << len(sky.ground.craters)) - 1

    def sure(self, standing):
        """The mask of the craters surely in at a standing."""
        return self.chart.sure(standing) & self.kept

    def is_blind(self, standing):
        """Whether all craters surely in may be left out."""
        return count_bits(self.sure(standing)) <= self.slack

    def partners(self, number, one, other):
        """The craters at the other standing with which one that is surely in at the first one can look as one.

        All places within the error of one that is surely in are in the frame: so the frame needn't be asked.
        """
        x, y, size = self.sky.ground.craters[number]
        turn, a, b = one
        x, y = turned(x, y, turn)
        reach = 2 * self.sky.camera.error
        near = self.chart.square(other[0], x + a - other[1], y + b - other[2], reach)
        return near & self.chart.of_size(size) & self.kept

    def partner_rows(self, one, other):
        """The partners of each crater surely in at the first standing."""
        return {number: self.partners(number, one, other) for number in bits(self.sure(one))}

    def _is_lacking(self, one, other):
        """Whether more craters surely in at the first standing than the slack lets find no partner."""
        sure = bits(self.sure(one))
        if len(sure) <= self.slack:
            return False
        masks = []
        alone = 0
        for number in sure:
            mask = self.partners(number, one, other)
            if not mask:
                alone += 1
                if alone > self.slack:
                    return True
            masks.append(mask)
        return lacks_more(masks, self.slack)

    def are_alike(self, one, other):
        """Whether some picture fits both standings."""
        return not self._is_lacking(one, other) and not self._is_lacking(other, one)
