"""[38]: from which standings, and from which beliefs, a goal is sure."""

import unittest
from itertools import combinations

from moonfall.crafts import Craft
from moonfall.deeds import away, land, look, step
from moonfall.grounds import Camera, Ground, Sky
from moonfall.landererrors import BadBelief, BadFlight
from moonfall.moreerrors import TooMany
from moonfall.regions import greatest_beliefs, sure_standings
from moonfall.values import is_sure
from plain import NEVER
from plaincraft import STILL, QuickTrial, Trial, cases, look_cases, random_belief
from test_values import BOTH, GOALS, example


def greatest_plain(trial, belief, fuel):
    """All beliefs within one, and of those that are sure the ones that lie within no other one."""
    sure = [lot for many in range(1, len(belief) + 1) for lot in combinations(belief, many) if trial.is_sure(lot, fuel)]
    return sorted(lot for lot in sure if not any(set(lot) < set(other) for other in sure))


class Standings(unittest.TestCase):
    def test_against_asking_each_alone(self):
        told = {0: 0, 1: 0, 2: 0}
        for _, craft, _, fuel in cases(400, 410000):
            everywhere = craft.skies[0].standings()
            for goal in GOALS:
                trial = Trial(craft, goal)
                right = tuple(standing for standing in everywhere if trial.is_sure((standing,), fuel))
                self.assertEqual(sure_standings(craft, goal, fuel, NEVER), right)
                self.assertEqual(right, tuple(sorted(right)))
                told[0 if not right else 2 if right == everywhere else 1] += 1
        self.assertGreater(min(told.values()), 50)

    def test_with_slips_and_looks(self):
        for _, craft, _ in look_cases(150, 420000):
            for goal in GOALS:
                for fuel in (2, 5, 9):
                    right = tuple(standing for standing in craft.skies[0].standings()
                                  if is_sure(craft, goal, (standing,), fuel, NEVER))
                    self.assertEqual(sure_standings(craft, goal, fuel, NEVER), right)

    def test_example(self):
        craft = example()
        for fuel, right in ((0, ()), (1, ((0, 2, 0),)), (2, ((0, 1, 0), (0, 2, 0))), (3, ((0, 0, 0), (0, 1, 0), (0, 2, 0))),
                            (4, craft.skies[0].standings()), (60, craft.skies[0].standings())):
            self.assertEqual(sure_standings(craft, "land", fuel, NEVER), right)
        self.assertEqual(sure_standings(example(away(2)), "keep", 2, NEVER), craft.skies[0].standings())
        self.assertEqual(sure_standings(Craft(craft.skies, (0, 0), 0, ()), "keep", 60, NEVER), ())

    def test_a_wide_sky(self):
        sky = Sky(Ground([(0, 0, 12)]), Camera(3, 3, 0, 0, 0), (0,), (-30, 30, -30, 30))
        steps = [step(1, aim, STILL) for aim in ((1, 0), (-1, 0), (0, 1), (0, -1))]
        craft = Craft((sky,), (0, 0), 0, (*steps, look(1, 0), land(1, STILL)))
        for fuel in (0, 1, 5, 13, 14, 40):
            right = tuple(standing for standing in sky.standings() if max(map(abs, standing[1:])) + fuel > 13 and fuel)
            self.assertEqual(sure_standings(craft, "land", fuel, NEVER), right)

    def test_which_error_comes_first(self):
        craft = example()
        for fuel in (-1, 61, True, None, "5"):
            with self.assertRaises(BadFlight) as told:
                sure_standings(craft, "hover", fuel, 0)
            self.assertIs(told.exception.thing, fuel)
        for goal in ("hover", None, ["land"], 0):
            with self.assertRaises(BadFlight) as told:
                sure_standings(craft, goal, 5, 0)
            self.assertIs(told.exception.thing, goal)
        for goal in GOALS:
            for fuel in (0, 60):
                with self.assertRaises(TooMany) as told:
                    sure_standings(craft, goal, fuel, 0)
                self.assertEqual(told.exception.most, 0)

    def test_too_many(self):
        for _, craft, _, fuel in cases(60, 430000):
            right = sure_standings(craft, "land", fuel, NEVER)
            for most in (1, 5, 30, 200):
                try:
                    self.assertEqual(sure_standings(craft, "land", fuel, most), right)
                except TooMany as e:
                    self.assertEqual(e.most, most)


class Beliefs(unittest.TestCase):
    def test_against_all_beliefs_within(self):
        told = {}
        for dice, craft, _, fuel in cases(400, 440000):
            belief = random_belief(dice, craft, 5)
            for goal in GOALS:
                trial = Trial(craft, goal)
                lots = greatest_beliefs(craft, goal, belief, fuel, NEVER)
                self.assertEqual(lots, greatest_plain(trial, belief, fuel))
                told[len(lots)] = told.get(len(lots), 0) + 1
                for many in range(1, len(belief) + 1):
                    for lot in combinations(belief, many):
                        within = any(set(lot) <= set(each) for each in lots)
                        self.assertIs(is_sure(craft, goal, lot, fuel, NEVER), within)
        self.assertGreater(min(told.get(many, 0) for many in (0, 1, 2)), 15)

    def test_more_standings(self):
        told = {}
        for dice, craft, _ in look_cases(70, 450000):
            belief = random_belief(dice, craft, 7)
            for goal in GOALS:
                fuel = dice.randint(2, 8)
                lots = greatest_beliefs(craft, goal, belief, fuel, NEVER)
                self.assertEqual(lots, greatest_plain(QuickTrial(craft, goal), belief, fuel))
                told[len(lots)] = told.get(len(lots), 0) + 1
        self.assertGreater(sum(told[many] for many in told if many > 2), 20)

    def test_many_standings(self):
        sky = Sky(Ground([(0, 0, 1), (3, 0, 1), (9, 1, 2)]), Camera(5, 5, 0, 0, 0), (0,), (-9, 9, -3, 3))
        steps = [step(1, aim, STILL) for aim in ((1, 0), (-1, 0), (0, 1), (0, -1))]
        craft = Craft((sky,), (2, 2), 0, (land(1, STILL), look(1, 0), *steps))
        belief = sky.standings()[::3]
        lots = greatest_beliefs(craft, "land", belief, 4, NEVER)
        self.assertGreater(len(lots), 1)
        self.assertEqual(lots, sorted(lots))
        for lot in lots:
            self.assertTrue(is_sure(craft, "land", lot, 4, NEVER))
            for standing in set(belief) - set(lot):
                self.assertFalse(is_sure(craft, "land", tuple(sorted((*lot, standing))), 4, NEVER))

    def test_example(self):
        craft = example()
        for fuel, right in ((0, []), (1, [BOTH[1:]]), (3, [BOTH[1:]]), (4, [BOTH[:1], BOTH[1:]]), (5, [BOTH]), (60, [BOTH])):
            self.assertEqual(greatest_beliefs(craft, "land", BOTH, fuel, NEVER), right)
        self.assertEqual(greatest_beliefs(Craft(craft.skies, (0, 0), 0, ()), "keep", BOTH, 60, NEVER), [])

    def test_which_error_comes_first(self):
        craft = example()
        for belief in ((), [(0, 0, 0)], BOTH[::-1], ((0, 9, 0),)):
            with self.assertRaises(BadBelief) as told:
                greatest_beliefs(craft, "hover", belief, -1, 0)
            self.assertIs(told.exception.belief, belief)
        for fuel in (-1, 61, True, None):
            with self.assertRaises(BadFlight) as told:
                greatest_beliefs(craft, "hover", BOTH, fuel, 0)
            self.assertIs(told.exception.thing, fuel)
        for goal in ("hover", None, ["land"]):
            with self.assertRaises(BadFlight) as told:
                greatest_beliefs(craft, goal, BOTH, 5, 0)
            self.assertIs(told.exception.thing, goal)
        for fuel in (0, 3, 60):
            with self.assertRaises(TooMany) as told:
                greatest_beliefs(craft, "land", BOTH, fuel, 0)
            self.assertEqual(told.exception.most, 0)

    def test_too_many(self):
        for _, craft, belief, fuel in cases(60, 460000):
            right = greatest_beliefs(craft, "land", belief, fuel, NEVER)
            for most in (1, 5, 30, 200):
                try:
                    self.assertEqual(greatest_beliefs(craft, "land", belief, fuel, most), right)
                except TooMany as e:
                    self.assertEqual(e.most, most)


if __name__ == "__main__":
    unittest.main()
