"""Chapter 1: the second example, as it stands there."""

import unittest

from moonfall.alike import are_alike, picture_for
from moonfall.grounds import Camera, Ground, Sky
from moonfall.reading import reading


class Examples(unittest.TestCase):
    def test_what_looks_alike(self):
        ground = Ground([(0, 0, 1), (2, 0, 1), (5, 0, 1)])
        sky = Sky(ground, Camera(4, 1, 0, 0, 0), (0,), (-4, 1, 0, 0))
        told = reading(sky, ((0, 0, 1), (2, 0, 1))), reading(sky, ((1, 0, 1), (3, 0, 1))), reading(sky, ((1, 0, 1),))
        self.assertEqual(told, (((0, 0, 0),), ((0, 1, 0),), ((0, -4, 0), (0, -1, 0))))
        told = are_alike(sky, (0, -4, 0), (0, -1, 0)), picture_for(sky, (0, -4, 0), (0, -1, 0))
        self.assertEqual(told, (True, ((1, 0, 1),)))


if __name__ == "__main__":
    unittest.main()
