"""Spots: the points of the frame that are good for most, for many standings at once.

What a spot is good for is a mask: the bit `place of the standing * how many craters + crater's number` is for the
crater that it can be of at that standing. Only spots are told that are good for nothing less than any other one:
in every picture such a spot can take the place of a lesser one.
"""

from moonfall.charts import Chart
from moonfall.masks import bits, greatest_of, mask_of


class Spots:
    """The spots for a list of standings, of which some may be asked for alone."""

    def __init__(self, sky, standings):
        self.camera = sky.camera
        self.many = len(sky.ground.craters)
        self.everything = (1 << self.many) - 1
        self._points = {}
        self._found = {}
        self._boxes = {}
        for at, standing in enumerate(standings):
            for number, (x, y, size) in enumerate(sky.places(standing)):
                if self.camera.is_maybe(x, y):
                    self._boxes[at * self.many + number] = (size, self._span(x), self._span(y))
        chart = Chart(sky)
        self._sure = [bits(chart.sure(standing)) for standing in standings]

    def _span(self, where):
        """How far the points that can be of a crater go along an axis.

        The frame doesn't count: only spots for craters that are surely in are asked for, and these are all in it.
        """
        return where - self.camera.error, where + self.camera.error

    def sure(self, at):
        """The numbers of the craters surely in at a standing."""
        return self._sure[at]

    def good_here(self, mask, at):
        """The craters that a spot is good for at one standing."""
        return mask >> at * self.many & self.everything

    def of_standings(self, places):
        """All that spots can be good for at some of the standings."""
        return mask_of([at * self.many for at in places]) * self.everything

    def point_of(self, mask):
        """A point of the frame that is good for just this."""
        return self._points[mask]

    def for_crater(self, at, number):
        """What the spots are good for that are good for a crater surely in at a standing, each once."""
        target = at * self.many + number
        if target not in self._found:
            masks = []
            size = self._boxes[target][0]
            for x, column in self._cuts(target, 1):
                for y, row in self._cuts(target, 2):
                    masks.append(column & row)
                    self._points[column & row] = (x, y, size)
            self._found[target] = greatest_of(masks)
        return self._found[target]

    def _cuts(self, target, axis):
        """Pairs (x or y, mask of the boxes that have it) along an axis of a target's box, the greatest masks alone."""
        size = self._boxes[target][0]
        low, high = self._boxes[target][axis]
        spans = {key: box[axis] for key, box in self._boxes.items() if box[0] == size}
        near = {key: span for key, span in spans.items() if span[0] <= high and span[1] >= low}
        where = {}
        # What boxes have in common begins where one of them begins.
        for begin in sorted(set([max(low, span[0]) for span in near.values()])):
            where[mask_of([key for key, span in near.items() if span[0] <= begin <= span[1]])] = begin
        return [(where[mask], mask) for mask in greatest_of(where)]
