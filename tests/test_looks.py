"""[39]: the fewest looks."""

import unittest
from random import Random

from moonfall.crafts import Craft
from moonfall.deeds import away, land, look, step
from moonfall.grounds import Camera, Ground, Sky
from moonfall.landererrors import BadBelief, BadFlight
from moonfall.looks import fewest_looks
from moonfall.moreerrors import TooMany
from moonfall.values import is_sure, least_fuel
from plain import NEVER
from plaincraft import STILL, QuickTrial, Trial, cases, look_cases, random_belief, row_craft
from test_values import BOTH, GOALS, example


class Looks(unittest.TestCase):
    def test_against_all_deeds_and_pictures(self):
        told = {}
        for _, craft, belief, fuel in cases(600, 510000):
            for goal in GOALS:
                trial = Trial(craft, goal)
                for each in {fuel, 8}:
                    right = trial.fewest_looks(belief, each)
                    self.assertEqual(fewest_looks(craft, goal, belief, each, NEVER), right)
                    told[right] = told.get(right, 0) + 1
        self.assertGreater(min(told.get(right, 0) for right in (None, 0, 1)), 10)

    def test_more_looks(self):
        told = {}
        small = [(craft, belief) for _, craft, belief in look_cases(150, 520000)]
        rows = [Random(seed) for seed in range(520000, 520060)]
        for craft, belief in small + [self.row_case(dice) for dice in rows]:
            for goal in GOALS:
                trial = QuickTrial(craft, goal)
                for fuel in (7, 11):
                    right = trial.fewest_looks(belief, fuel)
                    self.assertEqual(fewest_looks(craft, goal, belief, fuel, NEVER), right)
                    told[right] = told.get(right, 0) + 1
        self.assertGreater(min(told.get(right, 0) for right in (None, 0, 1, 2)), 10)

    def row_case(self, dice):
        craft = row_craft(dice)
        return craft, random_belief(dice, craft, 7)

    def test_example(self):
        self.assertEqual([fewest_looks(example(), "land", BOTH, fuel, NEVER) for fuel in (0, 4, 5, 6, 60)],
                         [None, None, 1, 1, 1])
        self.assertEqual([fewest_looks(example(), "land", BOTH[:1], fuel, NEVER) for fuel in (3, 4)], [None, 0])
        self.assertEqual([fewest_looks(example(away(7)), "keep", BOTH, fuel, NEVER) for fuel in (4, 5, 6, 7)],
                         [None, 1, 1, 0])

    def test_fewer_looks_that_need_more_fuel(self):
        # Crafts for which more looks save a walk.
        for seed, right in ((15, [1, 0]), (82, [2, 1]), (616, [3, 2, 1]), (684, [2, 0]), (942, [4, 3]), (994, [2, 1, 0]),
                            (1441, [3, 1])):
            for _, craft, belief in look_cases(1, seed):
                least = least_fuel(craft, "land", belief, 60, NEVER)
                told = [fewest_looks(craft, "land", belief, fuel, NEVER) for fuel in range(least, 16)]
                self.assertEqual(sorted(set(told), reverse=True), right)
                self.assertEqual(told, sorted(told, reverse=True))
                trial = QuickTrial(craft, "land")
                self.assertEqual(told[:13 - least], [trial.fewest_looks(belief, fuel) for fuel in range(least, 13)])

    def test_no_look_that_helps(self):
        for seed in range(100):
            for _, craft, belief, fuel in cases(1, 530000 + seed):
                without = Craft(craft.skies, craft.foot, craft.room,
                                tuple(deed for deed in craft.deeds if deed.kind != "look"))
                for goal in GOALS:
                    many = fewest_looks(craft, goal, belief, fuel, NEVER)
                    self.assertIs(many is None, not is_sure(craft, goal, belief, fuel, NEVER))
                    self.assertIs(many == 0, is_sure(without, goal, belief, fuel, NEVER))

    def test_greater_ones(self):
        dice = Random(2)
        ground = Ground([(x * 4 + dice.randint(0, 2), y * 4 + dice.randint(0, 2), dice.randint(1, 2))
                         for x in range(-3, 8) for y in range(-3, 6)])
        sky = Sky(ground, Camera(11, 11, 0, 0, 0), (0,), (-12, 7, -7, 12))
        steps = [step(1, aim, STILL) for aim in ((1, 0), (-1, 0), (0, 1), (0, -1))]
        craft = Craft((sky,), (5, 5), 0, (land(1, STILL), look(1, 0), *steps, away(15)))
        belief = sky.standings()[::11]
        self.assertIn(fewest_looks(craft, "land", belief, 16, NEVER), (1, 2))
        self.assertEqual(fewest_looks(craft, "keep", belief, 16, NEVER), 0)


class Errors(unittest.TestCase):
    def test_which_comes_first(self):
        craft = example()
        for belief in ((), [(0, 0, 0)], BOTH[::-1], ((0, 9, 0),)):
            with self.assertRaises(BadBelief) as told:
                fewest_looks(craft, "hover", belief, -1, 0)
            self.assertIs(told.exception.belief, belief)
        for fuel in (-1, 61, True, None):
            with self.assertRaises(BadFlight) as told:
                fewest_looks(craft, "hover", BOTH, fuel, 0)
            self.assertIs(told.exception.thing, fuel)
        for goal in ("hover", None, ["land"]):
            with self.assertRaises(BadFlight) as told:
                fewest_looks(craft, goal, BOTH, 5, 0)
            self.assertIs(told.exception.thing, goal)
        for fuel in (0, 5):
            with self.assertRaises(TooMany) as told:
                fewest_looks(craft, "land", BOTH, fuel, 0)
            self.assertEqual(told.exception.most, 0)

    def test_too_many(self):
        for _, craft, belief, fuel in cases(60, 540000):
            right = fewest_looks(craft, "land", belief, fuel, NEVER)
            for most in (1, 4, 20, 100):
                try:
                    self.assertEqual(fewest_looks(craft, "land", belief, fuel, most), right)
                except TooMany as e:
                    self.assertEqual(e.most, most)


if __name__ == "__main__":
    unittest.main()
