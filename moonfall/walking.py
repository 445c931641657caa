"""Plans with papers: no picture is searched for when they are walked."""

from moonfall.beliefs import behind, is_end
from moonfall.covers import cover, free_lots, shows_cover
from moonfall.goals import is_goal, reaches
from moonfall.plans import Table, deed_kept, is_plan


def papers_for(craft, plan, most):
    """For each row of a plan None, or for a look the cover of its belief."""
    return tuple([_paper_for(craft, row, most) for row in plan])


def _paper_for(craft, row, most):
    belief, _, number = row
    if number >= len(craft.deeds) or craft.deeds[number].kind != "look":
        return None
    return cover(craft.skies[craft.deeds[number].aim], belief, most)


def walks_plan(craft, goal, belief, fuel, plan, papers, most):
    """Whether anybody's things are a plan and its papers that show a goal from a belief with some fuel."""
    craft.check_start(belief, fuel)
    if not is_goal(goal) or not is_plan(craft, plan):
        return False
    if not isinstance(papers, tuple) or len(papers) != len(plan):
        return False
    table = Table(plan)
    if not table.is_covered(belief, fuel):
        return False
    for row, paper in zip(plan, papers):
        if not _is_right(craft, goal, row, paper, table, most):
            return False
    return True


def _is_right(craft, goal, row, paper, table, most):
    """Whether a row's deed reaches the goal, or leads to nothing but what is covered; a look by its paper."""
    deed = deed_kept(craft, row)
    if deed is None or is_end(deed):
        return deed is not None and reaches(deed, goal)
    belief, fuel, _ = row
    if deed.kind != "look":
        lots = [behind(craft, belief, deed)]
    elif shows_cover(craft.skies[deed.aim], belief, paper):
        lots = free_lots(belief, paper, most)
    else:
        return False
    return table.are_covered(lots, fuel - deed.fuel)
