"""Beliefs: where deeds lead to, and what can be seen."""

from moonfall.answers import answers
from moonfall.charts import Chart
from moonfall.fitting import fits_by


def ends_of(craft, standing, deed):
    """The ascending list of the standings to which a deed can lead from one."""
    if deed.kind == "turn":
        return [craft.swung(standing, deed.aim)]
    if deed.kind == "step":
        right, down = deed.aim
        return sorted([craft.stepped(standing, (right + x, down + y)) for x, y in deed.slips])
    if deed.kind == "land":
        return sorted([craft.stepped(standing, slip) for slip in deed.slips])
    return [standing]


def behind(craft, belief, deed):
    """The ascending tuple of all ends of all standings of a belief, also of such as can't be."""
    return tuple(sorted(set([end for standing in belief for end in ends_of(craft, standing, deed)])))


def is_kept(craft, belief, deed):
    """Whether the craft stays whole at all of these."""
    for standing in belief:
        for end in ends_of(craft, standing, deed):
            if not is_whole_at(craft, deed, end):
                return False
    return True


def is_whole_at(craft, deed, end):
    """Whether the craft is whole at an end of a deed: safe, if it lands; else where it can be."""
    return craft.is_safe(end) if deed.kind == "land" else craft.is_over(end)


def is_end(deed):
    """Whether a deed ends a flight."""
    return deed.kind in ("land", "away")


def seen(craft, belief, deed, picture):
    """The ascending tuple of the standings of a belief that a picture of a look fits."""
    chart = Chart(craft.skies[deed.aim])
    return tuple(sorted([standing for standing in belief if fits_by(chart, picture, standing)]))


def outcomes(craft, belief, deed, most):
    """The list of pairs (belief behind a deed, picture): of a look the greatest lots; else one, without a picture."""
    if deed.kind == "look":
        return answers(craft.skies[deed.aim], belief, most)
    return [(behind(craft, belief, deed), None)]
