"""[2]: the errors."""

import unittest

from moonfall.errors import BadCamera, BadGround, BadPicture, BadSky, BadStanding, MoonError
from moonfall.moreerrors import TooMany


class Errors(unittest.TestCase):
    def test_parents(self):
        self.assertEqual(MoonError.__bases__, (Exception,))
        for kind in (BadGround, BadCamera, BadSky, BadPicture, BadStanding, TooMany):
            self.assertEqual(kind.__bases__, (MoonError,), kind)

    def test_attributes(self):
        self.assertEqual(BadGround(7).number, 7)
        self.assertEqual(BadCamera("width").word, "width")
        self.assertEqual(BadSky("area").word, "area")
        self.assertEqual(BadPicture(3).number, 3)
        self.assertEqual(TooMany(12).most, 12)
        thing = [1, 2]
        self.assertIs(BadStanding(thing).standing, thing)

    def test_modules(self):
        self.assertEqual(BadStanding.__module__, "moonfall.errors")
        self.assertEqual(TooMany.__module__, "moonfall.moreerrors")


if __name__ == "__main__":
    unittest.main()
