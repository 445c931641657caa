"""Chapter 1: both examples, as they stand there."""

import unittest

from moonfall.alike import are_alike, picture_for
from moonfall.crafts import Craft
from moonfall.deeds import land, look, step
from moonfall.grounds import Camera, Ground, Sky
from moonfall.reading import reading
from moonfall.values import is_sure


class Examples(unittest.TestCase):
    def test_what_is_sure(self):
        sky = Sky(Ground([(0, 0, 1)]), Camera(3, 1, 0, 0, 0), (0,), (-1, 2, 0, 0))
        craft = Craft((sky,), (0, 0), 0, (land(1, ((0, 0),)), look(1, 0), step(1, (-1, 0), ((0, 0),))))
        told = [is_sure(craft, "land", ((0, -1, 0), (0, 2, 0)), fuel, 10 ** 9) for fuel in (4, 5)]
        self.assertEqual(told, [False, True])

    def test_what_looks_alike(self):
        ground = Ground([(0, 0, 1), (2, 0, 1), (5, 0, 1)])
        sky = Sky(ground, Camera(4, 1, 0, 0, 0), (0,), (-4, 1, 0, 0))
        told = reading(sky, ((0, 0, 1), (2, 0, 1))), reading(sky, ((1, 0, 1), (3, 0, 1))), reading(sky, ((1, 0, 1),))
        self.assertEqual(told, (((0, 0, 0),), ((0, 1, 0),), ((0, -4, 0), (0, -1, 0))))
        told = are_alike(sky, (0, -4, 0), (0, -1, 0)), picture_for(sky, (0, -4, 0), (0, -1, 0))
        self.assertEqual(told, (True, ((1, 0, 1),)))


if __name__ == "__main__":
    unittest.main()
