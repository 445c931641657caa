"""Dooming: rows (belief, fuel, answers) out of what a search has found not to be sure."""

from moonfall.answers import common_picture
from moonfall.beliefs import ends_of, is_end, is_whole_at
from moonfall.goals import reaches
from moonfall.masks import bits, mask_of
from moonfall.shortages import Shortages


class Doomer:
    """Makes the rows. Beliefs are masks; what is short for a part of a belief is short for it, too."""

    def __init__(self, sureness):
        self.sureness = sureness
        self.ways = sureness.ways
        self.hints = sureness.hints
        self._shortages = Shortages()
        self._fuels = {}
        self._waiting = []
        self._pictures = {}

    def rows_from(self, mask, fuel):
        """The rows by which a goal isn't sure from a belief that is known not to be."""
        self._doom(mask, fuel)
        rows = {}
        while self._waiting:
            lot = self._waiting.pop()
            short = self._fuels[lot]
            # What was given more fuel while it waited came twice.
            if lot not in rows or rows[lot][1] < short:
                rows[lot] = (self.ways.belief_of(lot), short, self._answers(lot, short))
        return list(rows.values())

    def _doom(self, mask, fuel):
        """See to it that there will be a row which dooms a belief with some fuel that isn't enough for it."""
        if self._shortages.has_within(mask, fuel):
            return
        pair = self.hints.scarce_pair(mask, fuel)
        if pair is None:
            self._put(mask, max(fuel, self.sureness.scarce_fuel(mask)))
        else:
            self._put(mask_of(pair), max(fuel, self.hints.scarce_fuel(pair)))

    def _put(self, lot, fuel):
        self._fuels[lot] = fuel
        self._shortages.put(lot, fuel)
        self._waiting.append(lot)

    def _answers(self, lot, fuel):
        """An answer to each deed in turn."""
        return tuple([self._answer(at, deed, lot, fuel) for at, deed in enumerate(self.ways.craft.deeds)])

    def _answer(self, at, deed, lot, fuel):
        left = fuel - deed.fuel
        if left < 0:
            return ("fuel",)
        bad = self._bad_end(at, deed, lot)
        if bad is not None:
            return ("bad", *bad)
        if is_end(deed) and not reaches(deed, self.sureness.goal):
            return ("away",)
        if deed.kind == "look":
            seen = self._lot_seen(at, deed, lot, left)
            self._doom(seen, left)
            return "picture", self._picture(deed.aim, seen)
        self._doom(self.ways.behind(at, lot), left)
        return ("next",)

    def _bad_end(self, at, deed, lot):
        """A pair (standing, end of it at which the craft isn't whole); None without any."""
        craft = self.ways.craft
        for number in bits(lot):
            if not self.ways.ends(at, number):
                standing = self.ways.belief_of(1 << number)[0]
                ends = [end for end in ends_of(craft, standing, deed) if not is_whole_at(craft, deed, end)]
                return standing, ends[0]
        return None

    def _lot_seen(self, at, deed, lot, left):
        """A lot of a belief that some picture fits, and from which the goal isn't sure with what fuel is left."""
        pair = self.hints.scarce_pair_behind_look(deed.aim, lot, left)
        if pair is not None:
            return mask_of(pair)
        # Some lot isn't sure, as the look is no good; the search has found which one.
        lots = [seen for seen in self.ways.lots(at, lot) if not self.sureness.is_sure(seen, left)]
        return lots[0]

    def _picture(self, camera, lot):
        key = (camera, lot)
        if key not in self._pictures:
            sky = self.ways.craft.skies[camera]
            self._pictures[key] = common_picture(sky, self.ways.belief_of(lot), self.ways.most)
        return self._pictures[key]
