"""[32], [33]: what is sure, against going through all deeds and all pictures."""

import unittest
from random import Random

from moonfall.crafts import Craft
from moonfall.deeds import away, land, look, step, turn
from moonfall.grounds import Camera, Ground, Sky
from moonfall.landererrors import BadBelief, BadFlight
from moonfall.moreerrors import TooMany
from moonfall.plans import plan_for
from moonfall.values import is_sure, least_fuel
from plain import NEVER
from plaincraft import STILL, QuickTrial, Trial, cases, random_belief, random_craft, row_craft

GOALS = ("land", "keep")


def example(*more):
    """The craft of chapter 1, and deeds of more kinds."""
    sky = Sky(Ground([(0, 0, 1)]), Camera(3, 1, 0, 0, 0), (0,), (-1, 2, 0, 0))
    return Craft((sky,), (0, 0), 0, (land(1, STILL), look(1, 0), step(1, (-1, 0), STILL), *more))


BOTH = ((0, -1, 0), (0, 2, 0))


class Sure(unittest.TestCase):
    def test_against_all_deeds_and_pictures(self):
        told = {goal: {} for goal in GOALS}
        for _, craft, belief, fuel in cases(900, 0):
            for goal in GOALS:
                trial = Trial(craft, goal)
                least = trial.least(belief, 8)
                self.assertEqual(least_fuel(craft, goal, belief, 8, NEVER), least, (craft.deeds, belief))
                within = least if least is not None and least <= fuel else None
                self.assertEqual(least_fuel(craft, goal, belief, fuel, NEVER), within)
                for each in {0, 8, fuel, least or 1, (least or 1) - 1}:
                    self.assertIs(is_sure(craft, goal, belief, each, NEVER), trial.is_sure(belief, each))
                told[goal][least] = told[goal].get(least, 0) + 1
        for counts in told.values():
            self.assertGreater(min(counts.get(least, 0) for least in (None, 1, 2, 3, 4, 5)), 5)

    def check_much_fuel(self, craft, belief, fuel, trial):
        least = trial.least(belief, fuel)
        self.assertEqual(least_fuel(craft, trial.goal, belief, fuel, NEVER), least, (craft.deeds, belief))
        for each in {fuel, least or fuel, (least or fuel) - 1}:
            right = least is not None and least <= each
            self.assertIs(is_sure(craft, trial.goal, belief, each, NEVER), right)
            self.assertIs(plan_for(craft, trial.goal, belief, each, NEVER) is not None, right)
        return least is not None and least > 8

    def test_much_fuel(self):
        # Searches that are long. Of the first seeds it takes a look behind which two standings are told apart late.
        late = 0
        for seed in (2150, 2344, 2382, 7736, 24631, *range(2000, 2300)):
            for _, craft, belief, _ in cases(1, seed):
                for goal in GOALS:
                    late += self.check_much_fuel(craft, belief, 12, Trial(craft, goal))
        self.assertGreater(late, 5)

    def test_many_standings_and_much_fuel(self):
        late = 0
        for seed in range(250):
            dice = Random(seed)
            craft = row_craft(dice)
            belief = random_belief(dice, craft, 7)
            for goal in GOALS:
                late += self.check_much_fuel(craft, belief, 15, QuickTrial(craft, goal))
        self.assertGreater(late, 5)

    def test_all_standings(self):
        # So many look alike, in so many ways, that it must be told ahead of all that can be seen.
        ground = Ground([(-4, -5, 1), (0, -1, 1), (3, 5, 1)])
        for camera in (Camera(6, 6, 1, 0, 1), Camera(3, 3, 0, 1, 0)):
            sky = Sky(ground, camera, (0, 1, 2, 3), (-5, 5, -5, 5))
            steps = [step(1, aim, ((0, 0), (1, 0))) for aim in ((1, 0), (-1, 0), (0, 1), (0, -1))]
            craft = Craft((sky,), (3, 3), 0, (*steps, look(1, 0), land(1, STILL), away(9)))
            for goal, least in (("land", None), ("keep", 9)):
                self.assertEqual(least_fuel(craft, goal, sky.standings(), 20, NEVER), least)
                self.assertIs(is_sure(craft, goal, sky.standings(), 20, NEVER), goal == "keep")

    def test_the_goals(self):
        for seed in range(300):
            craft = random_craft(seed)
            dice = Random(seed)
            belief = random_belief(dice, craft)
            for fuel in (1, 3, 6, 20):
                lands, keeps = [is_sure(craft, goal, belief, fuel, NEVER) for goal in GOALS]
                self.assertTrue(keeps or not lands)
                costs = [deed.fuel for deed in craft.deeds if deed.kind == "away"]
                if costs and min(costs) <= fuel:
                    self.assertTrue(keeps)
                if not costs:
                    self.assertIs(keeps, lands)

    def test_more_fuel_and_fewer_standings(self):
        for seed in range(250):
            craft = random_craft(seed)
            dice = Random(seed)
            belief = random_belief(dice, craft)
            less = tuple(sorted(dice.sample(belief, dice.randint(1, len(belief)))))
            for goal in GOALS:
                sure = [is_sure(craft, goal, belief, fuel, NEVER) for fuel in range(8)]
                self.assertEqual(sure, sorted(sure))
                self.assertFalse(sure[0])
                fewer = [is_sure(craft, goal, less, fuel, NEVER) for fuel in range(8)]
                self.assertTrue(all(one <= other for one, other in zip(sure, fewer)))

    def test_example(self):
        craft = example()
        self.assertEqual([is_sure(craft, "land", BOTH, fuel, NEVER) for fuel in range(7)], [False] * 5 + [True] * 2)
        self.assertEqual([least_fuel(craft, "land", BOTH, fuel, NEVER) for fuel in (0, 4, 5, 60)], [None, None, 5, 5])
        self.assertEqual(least_fuel(craft, "land", BOTH[:1], 60, NEVER), 4)
        self.assertEqual(least_fuel(craft, "land", BOTH[1:], 60, NEVER), 1)
        self.assertEqual(least_fuel(craft, "keep", BOTH, 60, NEVER), 5)
        self.assertEqual(least_fuel(example(away(3)), "keep", BOTH, 60, NEVER), 3)
        self.assertEqual(least_fuel(example(away(3)), "land", BOTH, 60, NEVER), 5)

    def test_without_deeds(self):
        craft = Craft(example().skies, (0, 0), 0, ())
        for goal in GOALS:
            self.assertIs(is_sure(craft, goal, BOTH, 60, NEVER), False)
            self.assertIsNone(least_fuel(craft, goal, BOTH, 60, NEVER))

    def test_one_standing(self):
        for dice, craft, _, _ in cases(200, 70000):
            for standing in dice.sample(craft.skies[0].standings(), 2):
                for goal in GOALS:
                    right = Trial(craft, goal).least((standing,), 7)
                    self.assertEqual(least_fuel(craft, goal, (standing,), 7, NEVER), right)

    def test_never_elsewhere(self):
        # Beyond the one end of the row it would be safe; but there it can't be.
        sky = Sky(Ground([(0, 0, 5)]), Camera(1, 1, 0, 0, 0), (0,), (0, 3, 0, 0))
        for aim in ((-1, 0), (1, 0)):
            craft = Craft((sky,), (0, 0), 0, (step(1, aim, STILL), land(1, STILL)))
            self.assertIs(is_sure(craft, "land", ((0, 0, 0),), 60, NEVER), False)
        wide = Sky(sky.ground, sky.camera, (0,), (0, 6, 0, 0))
        craft = Craft((wide,), (0, 0), 0, (step(1, (-1, 0), STILL), land(1, STILL)))
        self.assertEqual(least_fuel(craft, "land", ((0, 0, 0),), 60, NEVER), 7)
        # From the last place but one it may slip beyond the end; from further off it can't tell whether it slipped.
        slipping = Craft((wide,), (0, 0), 0, (step(1, (-1, 0), ((0, 0), (-1, 0))), land(1, STILL)))
        for a in range(6):
            self.assertIs(is_sure(slipping, "land", ((0, a, 0),), 60, NEVER), False)
        self.assertEqual(least_fuel(slipping, "land", ((0, 6, 0),), 60, NEVER), 1)

    def test_much_fuel(self):
        sky = Sky(Ground([(0, 0, 20), (5, 0, 1)]), Camera(3, 3, 0, 0, 0), (0, 1, 2, 3), (-40, 40, -40, 40))
        deeds = [step(1, aim, STILL) for aim in ((1, 0), (-1, 0), (0, 1), (0, -1))]
        craft = Craft((sky,), (1, 1), 0, (*deeds, look(1, 0), turn(1, 1), land(2, STILL), away(50)))
        self.assertEqual(least_fuel(craft, "land", ((0, 1, 1), (0, 1, 2)), 60, NEVER), 23)
        self.assertIs(is_sure(craft, "land", ((0, 1, 1), (0, 1, 2), (0, 2, 1)), 22, NEVER), False)
        self.assertIs(is_sure(craft, "keep", ((0, 1, 1), (0, 1, 2), (0, 2, 1)), 49, NEVER), True)


class Errors(unittest.TestCase):
    def test_which_comes_first(self):
        craft = example()
        for call in (is_sure, least_fuel):
            for belief in ((), [(0, 0, 0)], BOTH[::-1], ((0, 9, 0),)):
                with self.assertRaises(BadBelief) as told:
                    call(craft, "hover", belief, -1, 0)
                self.assertIs(told.exception.belief, belief)
            for fuel in (-1, 61, True, None):
                with self.assertRaises(BadFlight) as told:
                    call(craft, "hover", BOTH, fuel, 0)
                self.assertIs(told.exception.thing, fuel)
            for goal in ("hover", "", "Land", None, 0, ["land"], {}, ("land",)):
                with self.assertRaises(BadFlight) as told:
                    call(craft, goal, BOTH, 5, 0)
                self.assertIs(told.exception.thing, goal)
            for goal in GOALS:
                for fuel in (0, 1, 60):
                    with self.assertRaises(TooMany) as told:
                        call(craft, goal, BOTH, fuel, 0)
                    self.assertEqual(told.exception.most, 0)

    def test_too_many(self):
        for seed in range(60):
            craft = random_craft(seed)
            belief = random_belief(Random(seed), craft)
            for call in (is_sure, least_fuel):
                right = call(craft, "land", belief, 6, NEVER)
                for most in (1, 2, 5, 20, 100):
                    try:
                        self.assertEqual(call(craft, "land", belief, 6, most), right)
                    except TooMany as e:
                        self.assertEqual(e.most, most)


if __name__ == "__main__":
    unittest.main()
