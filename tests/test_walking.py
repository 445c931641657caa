"""[36]: plans with papers."""

import unittest

from moonfall.covers import cover, free_lots, shows_cover
from moonfall.crafts import Craft
from moonfall.deeds import away, land, look, step
from moonfall.grounds import Camera, Ground, Sky
from moonfall.landererrors import BadBelief, BadFlight
from moonfall.moreerrors import TooMany
from moonfall.plans import plan_for, shows_plan
from moonfall.values import is_sure
from moonfall.walking import papers_for, walks_plan
from plain import NEVER, changed_parts
from plaincraft import STILL, QuickTrial, behind_plain, cases, is_kept_plain, look_cases, random_belief
from test_plans import BOTH, GOALS, PLAN, example, is_covered_plain, shows_plain

# Of the craft of chapter 1: no picture fits both standings, as one crater is surely in at the second one alone.
PAPERS = papers_for(example(), PLAN, NEVER)


def walks_plain(craft, goal, belief, fuel, plan, papers):
    """[36] by its words, of what has the form of a plan; covers by [20]."""
    if goal not in GOALS or not is_covered_plain(plan, belief, fuel):
        return False
    if type(papers) is not tuple or len(papers) != len(plan):
        return False
    for (held, least, number), paper in zip(plan, papers):
        held = tuple(sorted(set(held)))
        if number >= len(craft.deeds) or craft.deeds[number].fuel > least:
            return False
        deed = craft.deeds[number]
        if not is_kept_plain(craft, held, deed) or (deed.kind == "away" and goal == "land"):
            return False
        lots = []
        if deed.kind == "look":
            if not shows_cover(craft.skies[deed.aim], held, paper):
                return False
            lots = free_lots(held, paper, NEVER)
        elif deed.kind in ("step", "turn"):
            lots = [behind_plain(craft, held, deed)]
        if not all(is_covered_plain(plan, lot, least - deed.fuel) for lot in lots):
            return False
    return True


class Papers(unittest.TestCase):
    def test_covers_that_there_are(self):
        looks = 0
        for _, craft, belief in look_cases(150, 210000):
            for goal in GOALS:
                plan = plan_for(craft, goal, belief, 10, NEVER)
                if plan is None:
                    continue
                papers = papers_for(craft, plan, NEVER)
                self.assertIs(type(papers), tuple)
                self.assertEqual(len(papers), len(plan))
                for (held, _, number), paper in zip(plan, papers):
                    deed = craft.deeds[number]
                    if deed.kind == "look":
                        self.assertEqual(paper, cover(craft.skies[deed.aim], held, NEVER))
                        looks += 1
                    else:
                        self.assertIsNone(paper)
        self.assertGreater(looks, 40)

    def test_example(self):
        self.assertEqual([paper is None for paper in PAPERS], [True, False, True, True, True])
        self.assertEqual([lot for lot, _ in PAPERS[1]], [BOTH])
        self.assertEqual(papers_for(example(), (), NEVER), ())
        # Beside a deed that isn't there there is nothing.
        self.assertEqual(papers_for(example(), ((BOTH, 5, 3), (BOTH, 5, 1000000), PLAN[1]), NEVER), (None, None, PAPERS[1]))

    def test_too_many(self):
        with self.assertRaises(TooMany) as told:
            papers_for(example(), PLAN, 0)
        self.assertEqual(told.exception.most, 0)
        self.assertEqual(papers_for(example(), PLAN[:1] + PLAN[2:], 0), (None,) * 4)
        for most in range(1, 40):
            try:
                self.assertEqual(papers_for(example(), PLAN, most), PAPERS)
            except TooMany as e:
                self.assertEqual(e.most, most)


class Walking(unittest.TestCase):
    def walks(self, plan, papers, belief=BOTH, fuel=5, goal="land", craft=None):
        return walks_plan(example() if craft is None else craft, goal, belief, fuel, plan, papers, NEVER)

    def test_papers_of_plans_that_show(self):
        let = looks = 0
        small = [(craft, belief, fuel) for _, craft, belief, fuel in cases(600, 200000)]
        for craft, belief, fuel in small + [(craft, belief, 12) for _, craft, belief in look_cases(200, 200000)]:
            for goal in GOALS:
                plan = plan_for(craft, goal, belief, fuel, NEVER)
                if plan is not None:
                    papers = papers_for(craft, plan, NEVER)
                    self.assertIs(walks_plan(craft, goal, belief, fuel, plan, papers, NEVER), True)
                    self.assertTrue(walks_plain(craft, goal, belief, fuel, plan, papers))
                    let += 1
                    looks += any(papers)
        self.assertGreater(let, 200)
        self.assertGreater(looks, 50)

    def test_greater_ones(self):
        ground = Ground([(0, 0, 1), (4, 1, 1), (9, 0, 2), (5, 5, 1), (1, 6, 1), (-4, 3, 1), (-5, -3, 2), (3, -5, 1)])
        sky = Sky(ground, Camera(9, 9, 0, 0, 0), (0,), (-5, 8, -5, 8))
        steps = [step(1, aim, STILL) for aim in ((1, 0), (-1, 0), (0, 1), (0, -1))]
        craft = Craft((sky,), (4, 4), 0, (land(1, STILL), look(1, 0), *steps, away(15)))
        belief = sky.standings()[::9]
        plan = plan_for(craft, "land", belief, 12, NEVER)
        papers = papers_for(craft, plan, NEVER)
        self.assertGreater(max(len(paper) for paper in papers if paper), 100)
        self.assertIs(walks_plan(craft, "land", belief, 12, plan, papers, NEVER), True)

    def test_example(self):
        for fuel in range(8):
            self.assertIs(self.walks(PLAN, PAPERS, fuel=fuel), fuel >= 5)
            self.assertIs(self.walks(PLAN[::-1], PAPERS[::-1], fuel=fuel), fuel >= 5)
        self.assertIs(self.walks(PLAN, PAPERS, goal="keep"), True)
        self.assertIs(self.walks(PLAN, PAPERS, belief=BOTH[:1], fuel=4), True)
        self.assertIs(self.walks(PLAN, PAPERS, belief=(BOTH[0], (0, 0, 0), BOTH[1])), False)

    def test_lost_and_changed_rows(self):
        for at in range(len(PLAN)):
            rows = PLAN[:at] + PLAN[at + 1:]
            self.assertIs(self.walks(rows, PAPERS[:at] + PAPERS[at + 1:]), False)
            self.assertIs(self.walks(rows, PAPERS), False)
            belief, fuel, number = PLAN[at]
            for row in ((belief, fuel - 1, number), (belief, fuel, (number + 1) % 3), (belief, fuel, 3)):
                self.assertIs(self.walks((*PLAN[:at], row, *PLAN[at + 1:]), PAPERS), False)

    def test_changed_papers(self):
        with_paper = PAPERS[1]
        for papers in ((), PAPERS[:-1], (*PAPERS, None), list(PAPERS), None, 0, "", (None,) * 5, {}, PAPERS[1:] + PAPERS[:1],
                       (with_paper, None, None, None, None), (None, (), None, None, None),
                       (None, list(with_paper), None, None, None), (None, with_paper[0], None, None, None)):
            self.assertIs(self.walks(PLAN, papers), False, papers)
        # Twice the same refusal refuses nothing more; without it both together are free.
        self.assertIs(self.walks(PLAN, (None, with_paper * 2, None, None, None)), True)
        for changed in changed_parts(with_paper):
            right = shows_cover(example().skies[0], BOTH, changed) and changed != ()
            self.assertIs(self.walks(PLAN, (None, changed, None, None, None)), right, changed)

    def test_anything_beside_other_deeds(self):
        for thing in (None, 0, "paper", (), [], {}, PAPERS[1], object(), (None,), 1.5):
            papers = (thing, PAPERS[1], thing, thing, thing)
            self.assertIs(self.walks(PLAN, papers), True)
        craft = example(away(3))
        for thing in (None, 0, PAPERS[1], ((), ())):
            self.assertIs(self.walks(((BOTH, 3, 3),), (thing,), goal="keep", craft=craft), True)
            self.assertIs(self.walks(((BOTH, 3, 3),), (thing,), goal="land", craft=craft), False)

    def test_fewer_refusals_need_wider_rows(self):
        # Rows may cover what no picture fits: then no refusal is needed.
        sky = Sky(Ground([(0, 0, 1)]), Camera(3, 1, 0, 0, 0), (0,), (-1, 5, 0, 0))
        craft = Craft((sky,), (0, 0), 0, (land(1, STILL), look(1, 0)))
        belief = ((0, 2, 0), (0, 3, 0))
        plan = ((belief, 1, 0), (belief, 2, 1))
        self.assertIs(walks_plan(craft, "land", belief, 2, plan, (None, ()), NEVER), True)
        self.assertIs(walks_plan(craft, "land", belief, 2, plan, papers_for(craft, plan, NEVER), NEVER), True)
        apart = ((belief[:1], 1, 0), (belief[1:], 1, 0), (belief, 2, 1))
        self.assertIs(walks_plan(craft, "land", belief, 2, apart, (None, None, ()), NEVER), False)
        self.assertIs(walks_plan(craft, "land", belief, 2, apart, papers_for(craft, apart, NEVER), NEVER), True)

    def test_order_of_standings(self):
        rows = (PLAN[0], (BOTH[::-1], 5, 1), *PLAN[2:])
        self.assertIs(self.walks(rows, PAPERS), True)
        self.assertIs(self.walks(rows, papers_for(example(), rows, NEVER)), True)

    def test_what_is_no_plan(self):
        for plan in (None, 0, "", list(PLAN), {}, (None,) * 5, ((),) * 5, "abcde", (*PLAN[:4], list(PLAN[4])),
                     (*PLAN[:4], (BOTH[1:], 61, 0)), (*PLAN[:4], (BOTH[1:], 1, True)), (*PLAN[:4], ((), 1, 0)),
                     (*PLAN[:4], (((0, 3, 0),), 1, 0)), (*PLAN[:4], (BOTH[1:], 1, 1000001))):
            self.assertIs(self.walks(plan, PAPERS), False, plan)
        self.assertIs(self.walks((), ()), False)

    def test_goals(self):
        for goal in ("hover", None, "", 0, ["land"], {}, ("land",)):
            self.assertIs(self.walks(PLAN, PAPERS, goal=goal), False)

    def test_changed_plans(self):
        told = {True: 0, False: 0}
        for dice, craft, belief in look_cases(500, 220000):
            fuel = dice.randint(4, 12)
            for goal in GOALS:
                plan = plan_for(craft, goal, belief, fuel, NEVER)
                if plan is None or len(plan) < 2:
                    continue
                papers = papers_for(craft, plan, NEVER)
                for _ in range(8):
                    at, other = dice.randrange(len(plan)), dice.randrange(len(plan))
                    held, least, number = plan[at]
                    rows, beside = list(plan), list(papers)
                    which = dice.randrange(5)
                    if which == 0:
                        del rows[at], beside[at]
                    elif which == 1:
                        rows[at] = (random_belief(dice, craft), least, number)
                    elif which == 2:
                        rows[at] = (held, max(0, least + dice.choice((-1, 1))), dice.randrange(len(craft.deeds) + 1))
                    elif which == 3:
                        beside[at], beside[other] = beside[other], beside[at]
                    else:
                        beside[at] = beside[at][1:] if beside[at] else dice.choice((None, ()))
                    rows, beside = tuple(rows), tuple(beside)
                    right = walks_plain(craft, goal, belief, fuel, rows, beside)
                    self.assertIs(walks_plan(craft, goal, belief, fuel, rows, beside, NEVER), right)
                    told[right] += 1
                    if right:
                        # Whatever is let by is sure; and pictures tell the same.
                        self.assertTrue(QuickTrial(craft, goal).is_sure(belief, fuel))
                        self.assertTrue(shows_plan(craft, goal, belief, fuel, rows, NEVER))
                    if which < 3 and shows_plain(craft, goal, belief, fuel, rows):
                        self.assertIs(walks_plan(craft, goal, belief, fuel, rows, papers_for(craft, rows, NEVER), NEVER),
                                      True)
        self.assertGreater(min(told.values()), 100)


class Errors(unittest.TestCase):
    def test_which_comes_first(self):
        craft = example()
        for belief in ((), [(0, 0, 0)], BOTH[::-1], None):
            with self.assertRaises(BadBelief) as told:
                walks_plan(craft, "hover", belief, -1, None, None, 0)
            self.assertIs(told.exception.belief, belief)
        for fuel in (-1, 61, True, None):
            with self.assertRaises(BadFlight) as told:
                walks_plan(craft, "hover", BOTH, fuel, None, None, 0)
            self.assertIs(told.exception.thing, fuel)
        self.assertIs(walks_plan(craft, "hover", BOTH, 5, PLAN, PAPERS, 0), False)

    def test_too_many(self):
        craft = example()
        with self.assertRaises(TooMany) as told:
            walks_plan(craft, "land", BOTH, 5, PLAN, PAPERS, 0)
        self.assertEqual(told.exception.most, 0)
        # Only looks that are met count.
        self.assertIs(walks_plan(craft, "land", BOTH[1:], 5, PLAN[4:], PAPERS[4:], 0), True)
        self.assertIs(walks_plan(craft, "land", BOTH[:1], 5, PLAN[:1] + PLAN[2:], (None,) * 4, 0), True)
        for most in range(1, 20):
            try:
                self.assertIs(walks_plan(craft, "land", BOTH, 5, PLAN, PAPERS, most), True)
            except TooMany as e:
                self.assertEqual(e.most, most)
        self.assertTrue(is_sure(craft, "land", BOTH, 5, NEVER))


if __name__ == "__main__":
    unittest.main()
