"""[34]: plans."""

import unittest
from random import Random

from moonfall.beliefs import outcomes
from moonfall.crafts import Craft
from moonfall.deeds import away, land, look, step
from moonfall.grounds import Camera, Ground, Sky
from moonfall.landererrors import BadBelief, BadFlight
from moonfall.moreerrors import TooMany
from moonfall.plans import covers, deed_by, plan_for, shows_plan
from moonfall.values import is_sure
from plain import NEVER
from plaincraft import STILL, Trial, cases, is_kept_plain, is_over_plain, random_belief, random_craft
from test_values import BOTH, GOALS, example

PLAN = (((BOTH[0],), 4, 2), (BOTH, 5, 1), (((0, 0, 0),), 3, 2), (((0, 1, 0),), 2, 2), (BOTH[1:], 1, 0))


def is_covered_plain(plan, belief, fuel):
    return any(set(belief) <= set(row[0]) and fuel >= row[1] for row in plan)


def shows_plain(craft, goal, belief, fuel, plan):
    """[34] by its words, of what has the form of a plan."""
    if goal not in GOALS or not is_covered_plain(plan, belief, fuel):
        return False
    for held, least, number in plan:
        held = tuple(sorted(set(held)))
        if number >= len(craft.deeds) or craft.deeds[number].fuel > least:
            return False
        deed = craft.deeds[number]
        if not is_kept_plain(craft, held, deed):
            return False
        if deed.kind == "away" and goal == "land":
            return False
        if deed.kind in ("land", "away"):
            continue
        for lot, _ in outcomes(craft, held, deed, NEVER):
            if not is_covered_plain(plan, lot, least - deed.fuel):
                return False
    return True


def has_form(craft, plan):
    """Whether a thing has the form of a plan."""
    if type(plan) is not tuple:
        return False
    for row in plan:
        if type(row) is not tuple or len(row) != 3 or type(row[0]) is not tuple or not row[0]:
            return False
        for standing in row[0]:
            if type(standing) is not tuple or len(standing) != 3 or not all(type(part) is int for part in standing):
                return False
            if not is_over_plain(craft, standing):
                return False
        if type(row[1]) is not int or not 0 <= row[1] <= 60 or type(row[2]) is not int or not 0 <= row[2] <= 1000000:
            return False
    return True


class Covering(unittest.TestCase):
    def test_covers(self):
        row = (((0, 2, 0), (0, -1, 0), (0, 0, 0)), 5, 7)
        for belief, fuel, right in ((BOTH, 5, True), (BOTH, 60, True), (BOTH, 4, False), (BOTH[:1], 5, True),
                                    (((0, 1, 0),), 9, False), ((*BOTH, (0, 1, 0)), 9, False), (row[0], 5, True)):
            self.assertIs(covers(row, belief, fuel), right)
            self.assertIs(covers(row, list(belief), fuel), right)

    def test_deed_by(self):
        plan = ((BOTH, 5, 1), (BOTH[:1], 3, 2), (BOTH, 2, 0))
        self.assertEqual([deed_by(plan, BOTH[:1], fuel) for fuel in range(8)], [None, None, 0, 2, 2, 1, 1, 1])
        self.assertEqual([deed_by(plan, BOTH, fuel) for fuel in range(8)], [None, None, 0, 0, 0, 1, 1, 1])
        self.assertIsNone(deed_by(plan, ((0, 1, 0),), 60))
        self.assertIsNone(deed_by((), BOTH, 60))


class Plans(unittest.TestCase):
    def check(self, craft, goal, belief, fuel, plan):
        self.assertIs(type(plan), tuple)
        self.assertEqual(list(plan), sorted(plan))
        self.assertTrue(has_form(craft, plan))
        self.assertIs(shows_plan(craft, goal, belief, fuel, plan, NEVER), True)
        self.assertTrue(shows_plain(craft, goal, belief, fuel, plan))
        number = deed_by(plan, belief, fuel)
        self.assertEqual(number, next(row[2] for row in plan if is_covered_plain([row], belief, fuel)))

    def test_against_all_deeds_and_pictures(self):
        rows = 0
        for _, craft, belief, fuel in cases(900, 20000):
            for goal in GOALS:
                plan = plan_for(craft, goal, belief, fuel, NEVER)
                self.assertEqual(plan is not None, Trial(craft, goal).is_sure(belief, fuel))
                if plan is not None:
                    self.check(craft, goal, belief, fuel, plan)
                    rows += len(plan) > 2
        self.assertGreater(rows, 40)

    def test_greater_ones(self):
        for seed in (0, 1):
            dice = Random(seed)
            ground = Ground([(x * 4 + dice.randint(0, 2), y * 4 + dice.randint(0, 2), dice.randint(1, 2))
                             for x in range(-3, 8) for y in range(-3, 6)])
            sky = Sky(ground, Camera(11, 11, 0, 0, 0), (0,), (-12, 7, -7, 12))
            steps = [step(1, aim, STILL) for aim in ((1, 0), (-1, 0), (0, 1), (0, -1))]
            craft = Craft((sky,), (5, 5), 0, (land(1, STILL), look(1, 0), *steps, away(15)))
            belief = sky.standings()[seed::11]
            for goal in GOALS:
                plan = plan_for(craft, goal, belief, 16, NEVER)
                self.assertEqual(plan is not None, is_sure(craft, goal, belief, 16, NEVER))
                if plan is not None:
                    self.check(craft, goal, belief, 16, plan)

    def test_example(self):
        plan = plan_for(example(), "land", BOTH, 5, NEVER)
        self.check(example(), "land", BOTH, 5, plan)
        self.assertIsNone(plan_for(example(), "land", BOTH, 4, NEVER))
        self.assertIs(shows_plan(example(), "land", BOTH, 5, PLAN, NEVER), True)


class Anybodys(unittest.TestCase):
    def shows(self, plan, belief=BOTH, fuel=5, goal="land", craft=None):
        craft = craft or example()
        told = shows_plan(craft, goal, belief, fuel, plan, NEVER)
        if has_form(craft, plan):
            self.assertIs(told, shows_plain(craft, goal, belief, fuel, plan))
        return told

    def test_rows_lost(self):
        self.assertIs(self.shows(PLAN), True)
        for at in range(len(PLAN)):
            self.assertIs(self.shows(PLAN[:at] + PLAN[at + 1:]), False)
            self.assertIs(self.shows(PLAN + PLAN[at:at + 1]), True)
        self.assertIs(self.shows(PLAN[::-1]), True)
        self.assertIs(self.shows(()), False)

    def test_other_questions(self):
        for fuel, right in ((4, False), (5, True), (6, True), (60, True)):
            self.assertIs(self.shows(PLAN, fuel=fuel), right)
        for belief, right in ((BOTH[:1], True), (BOTH[1:], True), (((0, 0, 0),), True), (((0, 0, 0), (0, 1, 0)), False),
                              ((BOTH[0], (0, 0, 0)), False)):
            self.assertIs(self.shows(PLAN, belief), right)
        self.assertIs(self.shows(PLAN, goal="keep"), True)
        for goal in ("hover", None, 0, ["land"], {}):
            self.assertIs(shows_plan(example(), goal, BOTH, 5, PLAN, NEVER), False)
            self.assertIs(shows_plan(example(), goal, BOTH, 5, PLAN, 0), False)

    def test_ends(self):
        craft = example(away(3))
        plan = ((BOTH, 3, 3),)
        self.assertIs(self.shows(plan, goal="keep", craft=craft), True)
        self.assertIs(self.shows(plan, goal="land", craft=craft), False)
        self.assertIs(self.shows(((BOTH, 2, 3),), goal="keep", craft=craft), False)
        self.assertIs(self.shows(((BOTH[1:], 1, 0),), BOTH[1:], craft=craft), True)
        self.assertIs(self.shows(((BOTH[1:], 0, 0),), BOTH[1:], craft=craft), False)
        self.assertIs(self.shows(((BOTH, 1, 0),), BOTH[1:], craft=craft), False)

    def test_rows_that_nothing_leads_to(self):
        for wrong in ((((0, 1, 0),), 1, 0), (((0, 1, 0),), 9, 3), (((0, 2, 0),), 9, 2), (((0, -1, 0),), 2, 2),
                      (BOTH, 0, 1)):
            self.assertIs(self.shows((*PLAN, wrong)), False)
        for right in ((((0, 1, 0),), 9, 2), (((0, 2, 0),), 60, 0), ((BOTH[0],), 30, 2)):
            self.assertIs(self.shows((*PLAN, right)), True)

    def test_order_of_standings(self):
        turned_about = ((PLAN[1][0][::-1], 5, 1),)
        self.assertIs(self.shows(PLAN[:1] + turned_about + PLAN[2:]), True)

    def test_anything(self):
        row = (BOTH[1:], 1, 0)
        self.assertIs(self.shows((row,), BOTH[1:]), True)
        rows = [list(row), row[:2], (*row, 0), ((), 1, 0), (list(BOTH[1:]), 1, 0), (BOTH[1], 1, 0), (None, 1, 0),
                (((0, 3, 0),), 1, 0), (((False, 2, 0),), 1, 0), (([0, 2, 0],), 1, 0), ((None,), 1, 0),
                (BOTH[1:], True, 0), (BOTH[1:], -1, 0), (BOTH[1:], 61, 0), (BOTH[1:], None, 0), (BOTH[1:], 1, False),
                (BOTH[1:], 1, -1), (BOTH[1:], 1, 3), (BOTH[1:], 1, 1000000), (BOTH[1:], 1, 1000001),
                (BOTH[1:], 1, None), (BOTH[1:], 1.0, 0), None, 0, "row", (), {}]
        for wrong in rows:
            self.assertIs(self.shows((row, wrong), BOTH[1:]), False, wrong)
        for thing in (None, 0, True, "", [], [row], {}, row, (None,), ((),), "abc", 1.5):
            self.assertIs(self.shows(thing, BOTH[1:]), False, thing)

    def test_changed_plans(self):
        told = {True: 0, False: 0}
        for dice, craft, belief, fuel in cases(700, 50000):
            for goal in GOALS:
                plan = plan_for(craft, goal, belief, fuel, NEVER)
                if plan is None:
                    continue
                for _ in range(6):
                    at = dice.randrange(len(plan))
                    held, least, number = plan[at]
                    changed = dice.choice((None, (held, least, dice.randrange(len(craft.deeds) + 1)),
                                           (held, max(0, least + dice.choice((-1, 1))), number),
                                           (random_belief(dice, craft), least, number)))
                    rows = plan[:at] + ((changed,) if changed else ()) + plan[at + 1:]
                    right = shows_plain(craft, goal, belief, fuel, rows)
                    self.assertIs(shows_plan(craft, goal, belief, fuel, rows, NEVER), right)
                    # Whatever is let by is sure.
                    self.assertTrue(is_sure(craft, goal, belief, fuel, NEVER))
                    told[right] += 1
        self.assertGreater(min(told.values()), 100)

    def test_what_is_let_by_is_sure(self):
        let = 0
        for seed in range(1500):
            craft = random_craft(seed)
            dice = Random(seed)
            beliefs = [random_belief(dice, craft) for _ in range(3)]
            plan = tuple((dice.choice(beliefs), dice.randint(0, 3), dice.randrange(len(craft.deeds)))
                         for _ in range(dice.randint(1, 3)))
            for goal in GOALS:
                if shows_plan(craft, goal, beliefs[0], 3, plan, NEVER):
                    self.assertTrue(is_sure(craft, goal, beliefs[0], 3, NEVER))
                    let += 1
        self.assertGreater(let, 15)


class Errors(unittest.TestCase):
    def test_which_comes_first(self):
        craft = example()
        calls = (lambda goal, belief, fuel: plan_for(craft, goal, belief, fuel, 0),
                 lambda goal, belief, fuel: shows_plan(craft, goal, belief, fuel, None, 0))
        for call in calls:
            for belief in ((), [(0, 0, 0)], BOTH[::-1]):
                with self.assertRaises(BadBelief) as told:
                    call("hover", belief, -1)
                self.assertIs(told.exception.belief, belief)
            for fuel in (-1, 61, True):
                with self.assertRaises(BadFlight) as told:
                    call("hover", BOTH, fuel)
                self.assertIs(told.exception.thing, fuel)
        for goal in ("hover", None, ["land"]):
            with self.assertRaises(BadFlight) as told:
                calls[0](goal, BOTH, 5)
            self.assertIs(told.exception.thing, goal)
            self.assertIs(calls[1](goal, BOTH, 5), False)

    def test_too_many(self):
        craft = example()
        for fuel in (0, 5):
            with self.assertRaises(TooMany) as told:
                plan_for(craft, "land", BOTH, fuel, 0)
            self.assertEqual(told.exception.most, 0)
        # Only looks that are met count.
        with self.assertRaises(TooMany) as told:
            shows_plan(craft, "land", BOTH, 5, PLAN, 0)
        self.assertEqual(told.exception.most, 0)
        self.assertIs(shows_plan(craft, "land", BOTH[1:], 5, PLAN[4:], 0), True)
        self.assertIs(shows_plan(craft, "land", BOTH[:1], 5, PLAN[:1] + PLAN[2:], 0), True)
        for most in range(1, 40):
            try:
                self.assertIs(shows_plan(craft, "land", BOTH, 5, PLAN, most), True)
                self.assertTrue(shows_plan(craft, "land", BOTH, 5, plan_for(craft, "land", BOTH, 5, most), most))
            except TooMany as e:
                self.assertEqual(e.most, most)


if __name__ == "__main__":
    unittest.main()
