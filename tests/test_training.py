"""[40]: which rows come about, and what is believed behind a run."""

import unittest

from moonfall.beliefs import outcomes
from moonfall.crafts import Craft
from moonfall.deeds import away, land, look, step, turn
from moonfall.grounds import Camera, Ground, Sky
from moonfall.landererrors import BadBelief, BadFlight
from moonfall.moreerrors import TooMany
from moonfall.plans import plan_for
from moonfall.training import believed, fuel_of, row_for, runs_to
from plain import NEVER, fits_plain, random_picture
from plaincraft import STILL, behind_plain, cases, look_cases, random_belief
from test_plans import BOTH, GOALS, PLAN, example, is_covered_plain


def first_row_plain(plan, belief, fuel):
    return next((row for row in plan if is_covered_plain([row], belief, fuel)), None)


def rows_plain(craft, plan, belief, fuel):
    """The rows that come about, by going through all outcomes, whatever was met before."""
    row = first_row_plain(plan, belief, fuel)
    if row is None:
        return set()
    rows = {row}
    if row[2] < len(craft.deeds):
        deed = craft.deeds[row[2]]
        if deed.fuel <= fuel and deed.kind not in ("land", "away"):
            for lot, _ in outcomes(craft, belief, deed, NEVER):
                rows |= rows_plain(craft, plan, lot, fuel - deed.fuel)
    return rows


def believed_plain(craft, belief, run):
    for number, picture in run:
        deed = craft.deeds[number]
        if deed.kind == "look":
            belief = tuple(standing for standing in belief if fits_plain(craft.skies[deed.aim], picture, standing))
        else:
            belief = behind_plain(craft, belief, deed)
    return belief


class Runs(unittest.TestCase):
    def check(self, craft, plan, belief, fuel):
        runs = runs_to(craft, plan, belief, fuel, NEVER)
        self.assertIs(type(runs), dict)
        self.assertEqual(list(runs), sorted(rows_plain(craft, plan, belief, fuel)))
        for row, run in runs.items():
            self.assertIs(type(run), tuple)
            held, left = belief, fuel
            for number, picture in run:
                # It goes by the plan's first rows, to what can be behind their deeds.
                self.assertEqual(number, first_row_plain(plan, held, left)[2])
                self.assertLessEqual(craft.deeds[number].fuel, left)
                behind = believed(craft, held, ((number, picture),))
                self.assertIn(behind, [lot for lot, _ in outcomes(craft, held, craft.deeds[number], NEVER)])
                self.assertIs(picture is None, craft.deeds[number].kind != "look")
                held, left = behind, left - craft.deeds[number].fuel
            self.assertEqual(first_row_plain(plan, held, left), row)
            self.assertEqual(held, believed(craft, belief, run))
            self.assertEqual(left, fuel - fuel_of(craft, run))
        return runs

    def test_plans(self):
        many = looks = 0
        small = [(craft, belief, fuel) for _, craft, belief, fuel in cases(300, 610000)]
        for craft, belief, fuel in small + [(craft, belief, 11) for _, craft, belief in look_cases(200, 610000)]:
            for goal in GOALS:
                plan = plan_for(craft, goal, belief, fuel, NEVER)
                if plan is not None:
                    for more in (0, 1, 5):
                        runs = self.check(craft, plan, belief, fuel + more)
                        many += len(runs) > 3
                        looks += any(picture is not None for run in runs.values() for _, picture in run)
        self.assertGreater(many, 150)
        self.assertGreater(looks, 150)

    def test_any_rows(self):
        told = {}
        for dice, craft, belief, fuel in cases(1000, 620000):
            rows = [(belief, dice.randint(0, 2), dice.randrange(len(craft.deeds)))]
            for _ in range(dice.randint(0, 8)):
                held = random_belief(dice, craft, 8)
                rows.append((held, dice.randint(0, 4), dice.randrange(len(craft.deeds) + 1)))
                rows.append((rows[dice.randrange(len(rows))][0], dice.randint(0, 3), dice.randrange(len(craft.deeds))))
            dice.shuffle(rows)
            runs = self.check(craft, tuple(rows), belief, fuel)
            told[len(runs)] = told.get(len(runs), 0) + 1
        self.assertGreater(min(told.get(many, 0) for many in (1, 2, 3)), 10)

    def test_example(self):
        runs = self.check(example(), PLAN, BOTH, 5)
        self.assertEqual(set(runs), set(PLAN))
        self.assertEqual(runs[PLAN[1]], ())
        self.assertEqual(runs[PLAN[0]], ((1, ()),))
        self.assertIn(runs[PLAN[4]], (((1, ((2, 0, 1),)),), ((1, ()), (2, None), (2, None), (2, None))))
        self.assertEqual(runs[PLAN[2]], ((1, ()), (2, None)))
        self.assertEqual(list(runs), sorted(PLAN))

    def test_rows_that_do_not_come_about(self):
        craft = example()
        more = (*PLAN, (((0, 1, 0),), 30, 0), (((0, 0, 0), (0, 1, 0)), 2, 2), (BOTH, 9, 0))
        self.assertEqual(set(self.check(craft, more, BOTH, 5)), set(PLAN))
        self.assertEqual(self.check(craft, PLAN, BOTH, 4), {})
        self.assertEqual(self.check(craft, (), BOTH, 60), {})
        self.assertEqual(self.check(craft, PLAN, BOTH[1:], 1), {PLAN[4]: ()})

    def test_the_first_of_two_rows_counts(self):
        craft = example()
        one, other = (BOTH[1:], 1, 0), (BOTH[1:], 0, 2)
        self.assertEqual(runs_to(craft, (one, other), BOTH[1:], 1, NEVER), {one: ()})
        self.assertEqual(runs_to(craft, (other, one), BOTH[1:], 1, NEVER), {other: ()})
        self.assertEqual(runs_to(craft, (one, other), BOTH[1:], 0, NEVER), {other: ()})
        wide = (BOTH, 1, 0)
        self.assertEqual(runs_to(craft, (wide, *PLAN), BOTH, 5, NEVER), {wide: ()})
        self.assertEqual(set(runs_to(craft, (*PLAN, wide), BOTH, 5, NEVER)), set(PLAN))
        # With the fuel that is there, not the row's: so another row may cover what is behind.
        rich = (((0, -1, 0),), 7, 0)
        self.assertEqual(set(runs_to(craft, (rich, *PLAN), BOTH, 8, NEVER)), {rich, PLAN[1], PLAN[4]})
        self.assertEqual(set(runs_to(craft, (rich, *PLAN), BOTH, 7, NEVER)), set(PLAN))

    def test_rows_whose_deed_is_not_there(self):
        craft = example()
        rows = ((BOTH, 5, 3), (BOTH, 4, 1), (BOTH[1:], 0, 0), (BOTH[:1], 0, 1000000))
        self.assertEqual(list(runs_to(craft, rows, BOTH, 5, NEVER)), [rows[0]])
        self.assertEqual(list(runs_to(craft, rows, BOTH, 4, NEVER)), sorted(rows[1:]))
        poor = Craft(craft.skies, (0, 0), 0, (look(5, 0),))
        self.assertEqual(list(runs_to(poor, ((BOTH, 3, 0),), BOTH, 4, NEVER)), [(BOTH, 3, 0)])

    def test_row_for(self):
        plan = ((BOTH, 5, 1), (BOTH[:1], 3, 2), (BOTH, 2, 0))
        self.assertEqual([row_for(plan, BOTH[:1], fuel) for fuel in range(8)],
                         [None, None, plan[2], plan[1], plan[1], plan[0], plan[0], plan[0]])
        self.assertEqual([row_for(plan, BOTH, fuel) for fuel in range(6)], [None, None, *plan[2:] * 3, plan[0]])
        self.assertIsNone(row_for(plan, ((0, 1, 0),), 60))
        self.assertIsNone(row_for((), BOTH, 60))
        for dice, craft, belief, fuel in cases(200, 630000):
            rows = tuple((random_belief(dice, craft, 6), dice.randint(0, 8), dice.randint(0, 5)) for _ in range(5))
            self.assertEqual(row_for(rows, belief[:1], fuel), first_row_plain(rows, belief[:1], fuel))

    def test_errors(self):
        craft = example()
        for belief in ((), [(0, 0, 0)], BOTH[::-1], ((0, 9, 0),)):
            with self.assertRaises(BadBelief) as told:
                runs_to(craft, PLAN, belief, -1, 0)
            self.assertIs(told.exception.belief, belief)
        for fuel in (-1, 61, True, None):
            with self.assertRaises(BadFlight) as told:
                runs_to(craft, PLAN, BOTH, fuel, 0)
            self.assertIs(told.exception.thing, fuel)
        with self.assertRaises(TooMany) as told:
            runs_to(craft, PLAN, BOTH, 5, 0)
        self.assertEqual(told.exception.most, 0)
        # Only looks that are met count.
        self.assertEqual(set(runs_to(craft, PLAN, BOTH[:1], 4, 0)), set(PLAN) - {PLAN[1]})
        self.assertEqual(runs_to(craft, PLAN, BOTH, 4, 0), {})


class Believed(unittest.TestCase):
    def test_against_all_ends(self):
        out = empty = 0
        for dice, craft, belief, _ in cases(400, 640000):
            run = []
            for _ in range(dice.randint(0, 5)):
                number = dice.randrange(len(craft.deeds))
                deed = craft.deeds[number]
                run.append((number, random_picture(craft.skies[deed.aim], dice) if deed.kind == "look" else None))
            right = believed_plain(craft, belief, run)
            self.assertEqual(believed(craft, belief, tuple(run)), right)
            self.assertEqual(fuel_of(craft, tuple(run)), sum(craft.deeds[number].fuel for number, _ in run))
            out += any(not craft.is_over(standing) for standing in right)
            empty += not right
        self.assertGreater(min(out, empty), 20)

    def test_ends_that_can_not_be(self):
        craft = example(step(2, (3, 0), ((0, 0), (1, 0))))
        self.assertEqual(believed(craft, BOTH, ()), BOTH)
        self.assertEqual(believed(craft, BOTH, ((3, None),)), ((0, -5, 0), (0, -4, 0), (0, -2, 0), (0, -1, 0)))
        self.assertEqual(believed(craft, BOTH, ((3, None), (2, None), (1, ()))), ((0, -4, 0), (0, -3, 0), (0, -1, 0)))
        self.assertEqual(believed(craft, BOTH, ((3, None), (2, None), (1, ((0, 0, 1),)))), ((0, 0, 0),))
        self.assertEqual(fuel_of(craft, ((3, None), (2, None), (1, ()))), 4)
        self.assertEqual(fuel_of(craft, ()), 0)

    def test_last_ends(self):
        sky = Sky(Ground([(0, 0, 1)]), Camera(3, 1, 0, 0, 0), (0, 1), (-1, 2, 0, 0))
        craft = Craft((sky,), (0, 0), 0, (land(2, ((0, 0), (5, 1))), away(3), turn(1, 1)))
        self.assertEqual(believed(craft, BOTH, ((0, None),)), ((0, -6, -1), (0, -3, -1), (0, -1, 0), (0, 2, 0)))
        self.assertEqual(believed(craft, BOTH, ((1, None),)), BOTH)
        self.assertEqual(believed(craft, BOTH, ((2, None),)), ((1, 0, -1), (1, 0, 2)))
        self.assertEqual(fuel_of(craft, ((2, None), (2, None), (0, None))), 4)


if __name__ == "__main__":
    unittest.main()
