"""Spots: the points of the frame, by what they are good for, for many standings at once.

What a spot is good for is a mask: the bit `place of the standing * how many craters + crater's number` is for the
crater that it can be of at that standing. Where not all are asked for, only spots are told that are good for nothing
less than any other one: in every picture such a spot can take the place of a lesser one.
"""

from moonfall.masks import bits, greatest_of, mask_of


class Spots:
    """The spots for a list of standings, of which some may be asked for alone."""

    def __init__(self, sky, standings):
        self.camera = sky.camera
        self.many = len(sky.ground.craters)
        self.everything = (1 << self.many) - 1
        self._points = {}
        self._found = {}
        self._each = {}
        self._boxes = {}
        self._sure = []
        for at, standing in enumerate(standings):
            places = sky.places(standing)
            for number, (x, y, size) in enumerate(places):
                if self.camera.is_maybe(x, y):
                    self._boxes[at * self.many + number] = (size, self._span(x), self._span(y))
            self._sure.append([number for number, (x, y, _) in enumerate(places) if self.camera.is_sure(x, y)])

    def _span(self, where):
        """How far the points that can be of a crater go along an axis.

        The frame doesn't count: only spots for craters that are surely in are asked for, and these are all in it.
        """
        return where - self.camera.error, where + self.camera.error

    def sure(self, at):
        """The numbers of the craters surely in at a standing."""
        return self._sure[at]

    def good_here(self, mask, at):
        """The craters that a spot is good for at one standing."""
        return mask >> at * self.many & self.everything

    def of_standings(self, places):
        """All that spots can be good for at some of the standings."""
        return mask_of([at * self.many for at in places]) * self.everything

    def point_of(self, mask):
        """A point of the frame that is good for just this."""
        return self._points[mask]

    def for_crater(self, at, number):
        """What the spots are good for that are good for a crater surely in at a standing, each once; greatest alone."""
        target = at * self.many + number
        if target not in self._found:
            masks = []
            size = self._boxes[target][0]
            columns = self._cuts(target, 1, False)
            rows = self._cuts(target, 2, False)
            down = greatest_of(rows)
            for column in greatest_of(columns):
                for row in down:
                    masks.append(column & row)
                    self._points[column & row] = (columns[column], rows[row], size)
            self._found[target] = greatest_of(masks)
        return self._found[target]

    def each_for_crater(self, at, number):
        """The same of all spots, lesser ones too, ascending."""
        target = at * self.many + number
        if target not in self._each:
            rows = self._cuts(target, 2, True)
            masks = [column & row for column in self._cuts(target, 1, True) for row in rows]
            self._each[target] = sorted(set(masks))
        return self._each[target]

    def _cuts(self, target, axis, is_each):
        """From the masks of the boxes that have some x (axis 1) or y (axis 2) of a target's box to where that is.

        The greatest masks are among them, or, if they are asked for, all.
        """
        size = self._boxes[target][0]
        low, high = self._boxes[target][axis]
        spans = {key: box[axis] for key, box in self._boxes.items() if box[0] == size}
        near = {key: span for key, span in spans.items() if span[0] <= high and span[1] >= low}
        # What boxes have in common begins where one of them begins; what only some have, perhaps behind an end.
        begins = [max(low, span[0]) for span in near.values()]
        if is_each:
            begins.extend([span[1] + 1 for span in near.values() if span[1] < high])
        where = {}
        for begin in sorted(set(begins)):
            where[mask_of([key for key, span in near.items() if span[0] <= begin <= span[1]])] = begin
        return where

    def told(self, mask):
        """The ascending tuple of the pairs (place of the standing, crater's number) of a mask."""
        return tuple([(bit // self.many, bit % self.many) for bit in bits(mask)])
