"""Training: which rows of a plan can come about, by which runs, and what is believed behind a run."""

from moonfall.beliefs import behind, is_end, outcomes, seen
from moonfall.plans import row_covering


def row_for(plan, belief, fuel):
    """The plan's first row that covers a belief and a fuel; None without any."""
    return row_covering(plan, belief, fuel)


def runs_to(craft, plan, belief, fuel, most):
    """The dict from the rows that come about, ascending, to runs that lead to them."""
    craft.check_start(belief, fuel)
    runs = {}
    known = {(belief, fuel): True}
    waiting = [(belief, fuel, ())]
    # What is met later is put behind: so runs are short.
    at = 0
    while at < len(waiting):
        held, left, run = waiting[at]
        at += 1
        row = row_covering(plan, held, left)
        if row is None:
            continue
        runs.setdefault(row, run)
        for lot, less, picture in _behind_row(craft, row, held, left, most):
            if (lot, less) not in known:
                known[(lot, less)] = True
                waiting.append((lot, less, (*run, (row[2], picture))))
    return {row: runs[row] for row in sorted(runs)}


def _behind_row(craft, row, belief, fuel, most):
    """What can come behind a row's deed: triples (belief, fuel, picture); none where it ends, or can't be done."""
    if row[2] >= len(craft.deeds):
        return []
    deed = craft.deeds[row[2]]
    if deed.fuel > fuel or is_end(deed):
        return []
    return [(lot, fuel - deed.fuel, picture) for lot, picture in outcomes(craft, belief, deed, most)]


def believed(craft, belief, run):
    """The belief behind a run; standings that can't be may be among it."""
    for number, picture in run:
        deed = craft.deeds[number]
        belief = seen(craft, belief, deed, picture) if deed.kind == "look" else behind(craft, belief, deed)
    return belief


def fuel_of(craft, run):
    """The fuel that a run takes."""
    return sum([craft.deeds[number].fuel for number, _ in run])
