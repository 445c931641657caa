"""[14] and [15]: safe skies, and where a sky is safe."""

import unittest
from itertools import combinations
from random import Random

from moonfall.errors import BadCamera, BadGround
from moonfall.grounds import Camera, Ground, Sky
from moonfall.moreerrors import TooMany
from moonfall.safeness import (beacons, confusion, greatest_region, is_safe, keeps_apart, strength, sure_standings,
                               with_craters, with_slack)
from plain import are_alike_plain, count, fits_plain, near_plain, random_sky, slack_plain

NEVER = 10 ** 9


def clash_plain(sky, one, other, reach):
    return not near_plain(one, other, reach) and are_alike_plain(sky, one, other)


def confusion_plain(sky, reach):
    pairs = [pair for pair in combinations(sky.standings(), 2) if clash_plain(sky, *pair, reach)]
    return min(pairs, default=None)


def skies(many, start=0, spans=(4, 3), most=6, turns=2):
    for seed in range(start, start + many):
        yield Random(seed), random_sky(seed, spans=spans, most=most, frame=(8, 7), slacks=(0, 0, 0, 1), turns=turns,
                                       least=1)


class Safe(unittest.TestCase):
    def test_all_pairs(self):
        told = {True: 0, False: 0}
        for _, sky in skies(250):
            for reach in (0, 1, 2):
                pair = confusion_plain(sky, reach)
                told[pair is None] += 1
                self.assertIs(is_safe(sky, reach), pair is None)
                found = confusion(sky, reach)
                if pair is None:
                    self.assertIsNone(found)
                    continue
                one, other, picture = found
                self.assertEqual((one, other), pair)
                self.assertIsNone(sky.camera.check_picture(picture))
                self.assertTrue(fits_plain(sky, picture, one) and fits_plain(sky, picture, other))
        self.assertGreater(min(told.values()), 100)

    def test_great_skies(self):
        # Nothing is seen at all: the first far pair is told at once, or that there is none.
        bare = Sky(Ground([]), Camera(9, 9, 1, 0, 0), (0,), (1, 200, 1, 200))
        self.assertEqual(confusion(bare, 0)[:2], ((0, 1, 1), (0, 1, 2)))
        self.assertEqual(confusion(bare, 198)[:2], ((0, 1, 1), (0, 1, 200)))
        dice = Random(1)
        ground = Ground([(dice.randint(0, 60), dice.randint(0, 60), dice.randint(1, 9)) for _ in range(80)])
        sky = Sky(ground, Camera(40, 40, 0, 1, 1), (0, 1), (-20, 9, -20, 9))
        self.assertEqual(strength(sky, 0) >= 2, is_safe(sky, 0))

    def test_with_slack(self):
        sky = Sky(Ground([(0, 0, 1)]), Camera(4, 3, 2, 7, 5), (1,), (0, 1, 2, 3))
        self.assertEqual(with_slack(sky, 9), Sky(sky.ground, Camera(4, 3, 2, 0, 9), (1,), (0, 1, 2, 3)))
        for slack in (0, 100):
            camera = with_slack(sky, slack).camera
            self.assertEqual((camera.false, camera.lost), (0, slack))
        self.assertEqual(sky.camera, Camera(4, 3, 2, 7, 5))
        with self.assertRaises(BadCamera):
            with_slack(sky, 101)

    def test_with_craters(self):
        sky = Sky(Ground([(3, 0, 1), (0, 0, 1)]), Camera(4, 3, 2, 7, 5), (1,), (0, 1, 2, 3))
        for more in ([(2, 0, 1), (0, 0, 1)], ((2, 0, 1), (0, 0, 1))):
            ground = Ground([(0, 0, 1), (0, 0, 1), (2, 0, 1), (3, 0, 1)])
            self.assertEqual(with_craters(sky, more), Sky(ground, sky.camera, (1,), (0, 1, 2, 3)))
        self.assertEqual(with_craters(sky, []), sky)
        self.assertEqual(len(sky.ground.craters), 2)

    def test_strength(self):
        told = {}
        for _, sky in skies(200, 500):
            for reach in (0, 1, 3):
                slacks = [slack_plain(sky, one, other) for one, other in combinations(sky.standings(), 2)
                          if not near_plain(one, other, reach)]
                right = min(slacks) - 1 if slacks else None
                self.assertEqual(strength(sky, reach), right)
                told[right] = told.get(right, 0) + 1
                tried = [slack for slack in range(8) if is_safe(with_slack(sky, slack), reach)]
                self.assertEqual(tried, list(range(8 if right is None else right + 1)))
        self.assertGreater(min(told[-1], told[None], told[0], told[1]), 10)


class Beacons(unittest.TestCase):
    def test_all_rows(self):
        told = {}
        for dice, sky in skies(120, 1000, spans=(3, 3), most=2):
            sites = sorted({(dice.randint(-3, 4), dice.randint(-3, 4), dice.randint(1, 2)) for _ in range(5)})
            dice.shuffle(sites)
            if dice.random() < 0.3 and sky.ground.craters[0] not in sites:
                sites[0] = sky.ground.craters[0]
            kept = list(sites)
            reach = dice.randint(0, 2)
            right = None
            for many in range(len(sites) + 1):
                for row in combinations(sorted(sites), many):
                    if right is None and confusion_plain(with_craters(sky, row), reach) is None:
                        right = row
            self.assertEqual(beacons(sky, sites, reach), right)
            self.assertEqual(beacons(sky, tuple(sites[::-1]), reach), right)
            self.assertEqual(sites, kept)
            count(told, right)
        self.assertGreater(min(told[None], told[0], told[1], told[2]), 1)

    def test_longer_rows(self):
        told = {}
        for seed in range(40):
            dice = Random(seed)
            camera = Camera(3, 1, 0, seed % 2, 0)
            sky = Sky(Ground([]), camera, (0,), (0, 6, 0, 0))
            sites = [(x, 0, dice.randint(1, 2)) for x in dice.sample(range(-6, 3), 7)]
            right = None
            for many in range(len(sites) + 1):
                for row in combinations(sorted(sites), many):
                    if right is None and is_safe(with_craters(sky, row), 1):
                        right = row
            self.assertEqual(beacons(sky, sites, 1), right)
            count(told, right)
        self.assertGreater(len(told), 3)
        self.assertGreater(max([many for many in told if many]), 2)

    def test_no_sites(self):
        sky = Sky(Ground([]), Camera(3, 1, 0, 0, 0), (0,), (0, 2, 0, 0))
        self.assertIsNone(beacons(sky, [], 1))
        self.assertEqual(beacons(sky, [], 2), ())
        self.assertEqual(beacons(sky, [(0, 0, 1)], 1), ((0, 0, 1),))
        self.assertEqual(beacons(sky, [(0, 0, 2), (0, 0, 1)], 0), ((0, 0, 1),))

    def number_of(self, sky, sites):
        with self.assertRaises(BadGround) as told:
            beacons(sky, sites, 0)
        return told.exception.number

    def test_bad_sites(self):
        sky = Sky(Ground([(0, 0, 1)]), Camera(3, 1, 0, 0, 0), (0,), (0, 0, 0, 0))
        good = [(1, 0, 1), (0, 0, 1), (2, 0, 1)]
        for wrong in (None, [5, 0, 1], (5, 0), (5, 0, 0), (5, 0, 100), (True, 0, 1), (1000001, 0, 1),
                      (0, -1000001, 1), (5, 0, 1.0)):
            self.assertEqual(self.number_of(sky, good + [wrong, wrong]), 3)
            self.assertEqual(self.number_of(sky, (wrong,)), 0)
        self.assertEqual(self.number_of(sky, good + [good[1], None]), 3)
        self.assertEqual(self.number_of(sky, good + [(9, 9, 9), good[2], good[2]]), 4)
        self.assertEqual(beacons(sky, good, 0), ())

    def test_hundred(self):
        full = Sky(Ground([(k, 0, 1) for k in range(98)]), Camera(3, 1, 0, 0, 0), (0,), (0, 0, 0, 0))
        self.assertEqual(beacons(full, [(0, 1, 1), (0, 2, 1)], 0), ())
        self.assertEqual(self.number_of(full, [(0, 1, 1), (0, 2, 1), (0, 3, 1)]), 2)
        self.assertEqual(self.number_of(full, [(0, 1, 1), (0, 2, 1), (0, 3, 1), None]), 2)
        self.assertEqual(self.number_of(full, [(0, 1, 1), (0, 1, 1), (0, 3, 1)]), 1)
        self.assertEqual(self.number_of(full, [(0, 1, 1), None, (0, 3, 1)]), 1)


def keeps_apart_plain(sky, lot, reach):
    return not any(clash_plain(sky, one, other, reach) for one, other in combinations(lot, 2))


class Regions(unittest.TestCase):
    def test_sure_standings(self):
        some = 0
        for dice, sky in skies(200, 2000):
            reach = dice.randint(0, 1)
            standings = sky.standings()
            right = tuple([one for one in standings
                           if not any(clash_plain(sky, one, other, reach) for other in standings)])
            self.assertEqual(sure_standings(sky, reach), right)
            some += 0 < len(right) < len(standings)
        self.assertGreater(some, 30)

    def test_keeps_apart(self):
        told = {True: 0, False: 0}
        for dice, sky in skies(200, 3000):
            for _ in range(4):
                lot = [dice.choice(sky.standings()) for _ in range(dice.randint(0, 4))]
                reach = dice.randint(0, 1)
                right = keeps_apart_plain(sky, lot, reach)
                told[right] += 1
                self.assertIs(keeps_apart(sky, lot, reach), right)
                self.assertIs(keeps_apart(sky, tuple(lot), reach), right)
        self.assertGreater(min(told.values()), 100)

    def test_one_standing_twice(self):
        sky = Sky(Ground([]), Camera(3, 1, 0, 0, 0), (0, 1), (0, 2, 0, 0))
        self.assertTrue(keeps_apart(sky, [(0, 0, 0), (0, 0, 0)], 0))
        self.assertTrue(keeps_apart(sky, [], 0))
        self.assertFalse(keeps_apart(sky, [(0, 0, 0), (0, 0, 0), (0, 1, 0)], 0))
        self.assertTrue(keeps_apart(sky, [(0, 0, 0), (0, 0, 0), (0, 1, 0)], 1))
        self.assertFalse(keeps_apart(sky, [(0, 0, 0), (1, 0, 0)], 9))
        self.assertFalse(keeps_apart(sky, [(0, 50, 0), (2, 0, 0)], 9))

    def test_greatest_region(self):
        some = 0
        for dice, sky in skies(150, 4000, spans=(4, 3), turns=1):
            standings = sky.standings()
            if len(standings) > 12:
                continue
            for reach in (0, 1):
                right = None
                for many in range(len(standings), -1, -1):
                    lots = [lot for lot in combinations(standings, many) if keeps_apart_plain(sky, lot, reach)]
                    if lots:
                        right = lots[0]
                        break
                self.assertEqual(greatest_region(sky, reach, NEVER), right)
                some += 1 < len(right) < len(standings)
        self.assertGreater(some, 60)

    def test_region_where_nothing_is_seen(self):
        sky = Sky(Ground([]), Camera(3, 1, 0, 0, 0), (0, 1), (0, 9, 0, 6))
        self.assertEqual(greatest_region(sky, 0, NEVER), ((0, 0, 0),))
        self.assertEqual(greatest_region(sky, 1, NEVER), ((0, 0, 0), (0, 0, 1), (0, 1, 0), (0, 1, 1)))
        nine = tuple([(0, a, b) for a in range(3) for b in range(3)])
        self.assertEqual(greatest_region(sky, 2, NEVER), nine)

    def test_too_many(self):
        for _, sky in skies(20, 5000):
            with self.assertRaises(TooMany) as told:
                greatest_region(sky, 1, 0)
            self.assertEqual(told.exception.most, 0)
            for most in (1, 2, 5):
                try:
                    self.assertEqual(greatest_region(sky, 1, most), greatest_region(sky, 1, NEVER))
                except TooMany as e:
                    self.assertEqual(e.most, most)


if __name__ == "__main__":
    unittest.main()
