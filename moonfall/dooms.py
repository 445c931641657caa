"""Dooms: rows (belief, fuel, answers) by which a goal is not sure, whatever is done."""

from moonfall.beliefs import behind, ends_of, is_whole_at, seen
from moonfall.dooming import Doomer
from moonfall.forms import is_picture, is_row
from moonfall.goals import is_goal
from moonfall.masks import mask_of
from moonfall.shortages import Shortages
from moonfall.sureness import sureness_for
from moonfall.whole import is_triple


def doom_for(craft, goal, belief, fuel, most):
    """An ascending doom that shows that a goal isn't sure from a belief with some fuel; None if it is."""
    sureness, mask = sureness_for(craft, goal, belief, fuel, most)
    return None if sureness.is_sure(mask, fuel) else tuple(sorted(Doomer(sureness).rows_from(mask, fuel)))


def shows_doom(craft, goal, belief, fuel, doom):
    """Whether anybody's thing is a doom that shows that a goal isn't sure from a belief with some fuel."""
    craft.check_start(belief, fuel)
    if not is_goal(goal) or not is_doom(craft, doom):
        return False
    table = Table(doom)
    if not table.is_doomed(belief, fuel):
        return False
    for row in doom:
        if not _is_right(craft, goal, row, table):
            return False
    return True


def is_doom(craft, thing):
    """Whether a thing is a tuple of rows with an answer to each deed; what these say isn't asked."""
    if not isinstance(thing, tuple) or not all([is_row(craft, row) for row in thing]):
        return False
    return all([_are_answers(answers, len(craft.deeds)) for _, _, answers in thing])


def _are_answers(thing, many):
    if not isinstance(thing, tuple) or len(thing) != many:
        return False
    return all([isinstance(answer, tuple) and answer and isinstance(answer[0], str) for answer in thing])


def _is_right(craft, goal, row, table):
    """Whether all answers of a row are right."""
    belief, fuel, answers = row
    for deed, answer in zip(craft.deeds, answers):
        if not _is_answered(craft, goal, belief, fuel, deed, answer, table):
            return False
    return True


def _is_answered(craft, goal, belief, fuel, deed, answer, table):
    """Whether an answer to a deed is right."""
    if answer == ("fuel",):
        return fuel < deed.fuel
    if answer == ("away",):
        return deed.kind == "away" and goal == "land"
    if answer == ("next",):
        return deed.kind in ("step", "turn") and table.is_doomed(behind(craft, belief, deed), fuel - deed.fuel)
    if answer[0] == "bad" and len(answer) == 3:
        return _is_bad(craft, belief, deed, answer[1], answer[2])
    if answer[0] != "picture" or len(answer) != 2 or deed.kind != "look":
        return False
    if not is_picture(craft.skies[deed.aim].camera, answer[1]):
        return False
    return table.is_doomed(seen(craft, belief, deed, answer[1]), fuel - deed.fuel)


def _is_bad(craft, belief, deed, standing, end):
    """Whether a thing is an end, of a standing of a belief, at which the craft isn't whole."""
    if not is_triple(standing) or standing not in belief or not is_triple(end):
        return False
    return end in ends_of(craft, standing, deed) and not is_whole_at(craft, deed, end)


class Table:
    """The beliefs of rows as masks, so that it is soon told what they doom."""

    def __init__(self, rows):
        self._numbers = {}
        self._shortages = Shortages()
        for belief, fuel, _ in rows:
            for standing in belief:
                self._numbers.setdefault(standing, len(self._numbers))
            self._shortages.put(mask_of([self._numbers[standing] for standing in belief]), fuel)

    def is_doomed(self, belief, fuel):
        """Whether some row has no other standings than a belief's, and no less fuel."""
        numbers = [self._numbers[standing] for standing in belief if standing in self._numbers]
        return self._shortages.has_within(mask_of(numbers), fuel)
