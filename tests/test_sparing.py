"""[16]: the fewest craters and the least frame."""

import unittest
from itertools import combinations

from moonfall.grounds import Camera, Ground, Sky
from moonfall.sparing import fewest_kept, frames_up_to, least_frame, with_frame, with_ground
from plain import count
from test_safeness import confusion_plain, skies


class Sparing(unittest.TestCase):
    def test_with(self):
        sky = Sky(Ground([(3, 0, 1), (0, 0, 1)]), Camera(4, 3, 2, 7, 5), (1,), (0, 1, 2, 3))
        for craters in ([(9, 9, 9), (1, 1, 1)], ((1, 1, 1), (9, 9, 9))):
            ground = Ground([(1, 1, 1), (9, 9, 9)])
            self.assertEqual(with_ground(sky, craters), Sky(ground, sky.camera, (1,), (0, 1, 2, 3)))
        self.assertEqual(with_frame(sky, 8, 9), Sky(sky.ground, Camera(8, 9, 2, 7, 5), (1,), (0, 1, 2, 3)))
        self.assertEqual(len(sky.ground.craters), 2)
        self.assertEqual((sky.camera.width, sky.camera.height), (4, 3))

    def test_fewest_kept(self):
        told = {}
        for dice, sky in skies(150, spans=(3, 3), most=5):
            reach = dice.randint(0, 2)
            craters = sky.ground.craters
            right = None
            for many in range(len(craters) + 1):
                for lot in combinations(craters, many):
                    if right is None and confusion_plain(with_ground(sky, lot), reach) is None:
                        right = lot
            found = fewest_kept(sky, reach)
            self.assertEqual(found, right)
            count(told, right)
        self.assertGreater(min(told[None], told[0], told[1], told[2]), 3)

    def test_first_by_numbers(self):
        sky = Sky(Ground([(1, 0, 2), (0, 0, 1), (1, 0, 1), (1, 0, 1)]), Camera(5, 1, 0, 0, 0), (0,), (0, 2, 0, 0))
        self.assertEqual(fewest_kept(sky, 0), ((0, 0, 1),))
        self.assertEqual(fewest_kept(sky, 2), ())

    def test_no_craters(self):
        sky = Sky(Ground([]), Camera(5, 1, 0, 0, 0), (0,), (0, 2, 0, 0))
        self.assertIsNone(fewest_kept(sky, 1))
        self.assertEqual(fewest_kept(sky, 2), ())

    def test_frames_up_to(self):
        self.assertEqual(frames_up_to(1, 1), [(1, 1)])
        self.assertEqual(frames_up_to(3, 2), [(1, 1), (1, 2), (2, 1), (3, 1), (2, 2), (3, 2)])
        for width, height in ((5, 7), (6, 6)):
            right = [(w, h) for w in range(1, width + 1) for h in range(1, height + 1)]
            right.sort(key=lambda frame: (frame[0] * frame[1], frame[0]))
            self.assertEqual(frames_up_to(width, height), right)

    def test_least_frame(self):
        told = {}
        for dice, sky in skies(150, 300, spans=(3, 3), most=5):
            reach = dice.randint(0, 2)
            right = None
            for width, height in frames_up_to(sky.camera.width, sky.camera.height):
                if right is None and confusion_plain(with_frame(sky, width, height), reach) is None:
                    right = (width, height)
            self.assertEqual(least_frame(sky, reach), right)
            told[right] = told.get(right, 0) + 1
        self.assertGreater(len(told), 8)
        self.assertGreater(told[None], 10)

    def test_great_frame(self):
        # Both craters must be surely in at the lesser a, also at the greater b.
        ground = Ground([(0, 0, 1), (400, 30, 1)])
        sky = Sky(ground, Camera(1000, 1000, 3, 0, 1), (0,), (10, 17, 10, 11))
        self.assertEqual(least_frame(sky, 6), (414, 45))
        self.assertEqual(least_frame(with_frame(sky, 414, 45), 6), (414, 45))
        for width, height in ((413, 45), (413, 50), (414, 44), (1000, 44), (413, 1000)):
            self.assertIsNone(least_frame(with_frame(sky, width, height), 6))


if __name__ == "__main__":
    unittest.main()
