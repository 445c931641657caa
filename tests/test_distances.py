"""[13]: how far from alike standings are."""

import unittest
from itertools import combinations
from random import Random

from moonfall.alike import are_alike
from moonfall.distances import nearest_pair, slack_between, strength_of
from moonfall.grounds import Camera, Ground, Sky
from moonfall.safeness import strength, with_slack
from plain import near_plain, random_sky, slack_plain


class Distances(unittest.TestCase):
    def test_slack_between(self):
        told = {}
        for seed in range(300):
            sky = random_sky(seed, most=8, frame=(8, 7), errors=(0, 1, 1, 2))
            dice = Random(seed)
            for _ in range(3):
                one, other = dice.choice(sky.standings()), dice.choice(sky.standings())
                slack = slack_between(sky, one, other)
                told[slack] = told.get(slack, 0) + 1
                self.assertEqual(slack, slack_plain(sky, one, other))
                tried = [are_alike(with_slack(sky, each), one, other) for each in range(slack + 3)]
                self.assertEqual(tried, [False] * slack + [True] * 3)
        self.assertGreater(len(told), 4)

    def test_nearest_pair(self):
        told = {}
        for seed in range(200):
            sky = random_sky(seed, spans=(4, 3), most=7, frame=(8, 7), errors=(0, 0, 1), turns=2)
            for reach in (0, 1, 2):
                pairs = [(slack_plain(sky, one, other), one, other)
                         for one, other in combinations(sky.standings(), 2) if not near_plain(one, other, reach)]
                right = min(pairs, default=None)
                self.assertEqual(nearest_pair(sky, reach), right)
                least = right and right[0] - 1
                self.assertEqual(strength_of(sky, reach), least)
                self.assertEqual(strength(sky, reach), least)
                told[least] = told.get(least, 0) + 1
        self.assertGreater(len(told), 4)
        self.assertGreater(told[None], 10)

    def test_slack_beyond_a_hundred(self):
        ground = Ground([(k, 0, 1) for k in range(100)])
        sky = Sky(ground, Camera(100, 1, 0, 100, 100), (0,), (0, 1000, 0, 0))
        self.assertEqual(slack_between(sky, (0, 0, 0), (0, 1000, 0)), 100)
        self.assertEqual(slack_between(sky, (0, 0, 0), (0, 40, 0)), 40)
        near = Sky(ground, Camera(100, 1, 0, 100, 100), (0,), (0, 30, 0, 0))
        self.assertEqual(nearest_pair(near, 27), (28, (0, 0, 0), (0, 28, 0)))

    def test_own_slack_does_not_count(self):
        ground = Ground([(0, 0, 1), (1, 0, 1), (2, 0, 1), (9, 0, 1)])
        skies = [Sky(ground, Camera(4, 1, 0, false, lost), (0,), (-3, 0, 0, 0)) for false in (0, 50) for lost in (2, 100)]
        self.assertEqual({slack_between(sky, (0, -3, 0), (0, 0, 0)) for sky in skies}, {3})
        self.assertEqual({nearest_pair(sky, 1) for sky in skies}, {(2, (0, -3, 0), (0, -1, 0))})


if __name__ == "__main__":
    unittest.main()
