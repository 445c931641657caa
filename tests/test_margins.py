"""[37]: margins."""

import unittest
from random import Random

from moonfall.crafts import Craft
from moonfall.deeds import away, land, look, step
from moonfall.errors import BadCamera
from moonfall.grounds import Camera, Ground, Sky
from moonfall.landererrors import BadBelief, BadCraft, BadFlight
from moonfall.margins import margin, worse
from moonfall.moreerrors import TooMany
from moonfall.values import is_sure
from plain import NEVER
from plaincraft import STILL, Trial, cases, look_cases, random_belief, random_craft
from test_values import BOTH, GOALS, example

WORDS = ("error", "false", "lost", "room")


def parts_of(craft):
    """All numbers of a craft's cameras, and its room."""
    return [(sky.camera.width, sky.camera.height, sky.camera.error, sky.camera.false, sky.camera.lost)
            for sky in craft.skies], craft.room


def bounds(craft, word):
    """How much worse it can be at the most."""
    now = {"error": [sky.camera.error for sky in craft.skies], "false": [sky.camera.false for sky in craft.skies],
           "lost": [sky.camera.lost for sky in craft.skies], "room": [craft.room]}[word]
    return (1000 if word == "room" else 100) - max(now)


def margin_plain(craft, goal, belief, fuel, word):
    sure = [more for more in range(min(12, bounds(craft, word)) + 1)
            if is_sure(worse(craft, word, more), goal, belief, fuel, NEVER)]
    return max(sure, default=-1)


class Worse(unittest.TestCase):
    def test_each_word(self):
        for seed in range(120):
            craft = random_craft(seed)
            cameras, room = parts_of(craft)
            for at, word in enumerate(WORDS):
                for more in (0, 1, 3):
                    other = worse(craft, word, more)
                    right = [tuple(number + more * (k == at + 2) for k, number in enumerate(camera))
                             for camera in cameras]
                    self.assertEqual(parts_of(other), (right, room + more * (word == "room")))
                    self.assertEqual([sky.ground for sky in other.skies], [sky.ground for sky in craft.skies])
                    self.assertEqual([(sky.turns, sky.area) for sky in other.skies],
                                     [(sky.turns, sky.area) for sky in craft.skies])
                    self.assertEqual((other.foot, other.deeds), (craft.foot, craft.deeds))
                    self.assertIsInstance(other, Craft)
                    self.assertIs(type(other.skies), tuple)
                    self.assertIs(other == craft, more == 0)
            # What is handed in stays as it is.
            self.assertEqual(parts_of(craft), (cameras, room))
            self.assertEqual(craft, random_craft(seed))

    def test_bounds(self):
        sky = Sky(Ground([]), Camera(3, 1, 0, 40, 99), (0,), (0, 0, 0, 0))
        other = Sky(Ground([]), Camera(3, 1, 98, 0, 0), (0,), (0, 0, 0, 0))
        craft = Craft((sky, other), (0, 0), 990, ())
        for word, most in (("error", 2), ("false", 60), ("lost", 1)):
            self.assertEqual(max(getattr(each.camera, word) for each in worse(craft, word, most).skies), 100)
            for more in (most + 1, 500):
                with self.assertRaises(BadCamera) as told:
                    worse(craft, word, more)
                self.assertEqual(told.exception.word, word)
        self.assertEqual(worse(craft, "room", 10).room, 1000)
        with self.assertRaises(BadCraft) as told:
            worse(craft, "room", 11)
        self.assertEqual(told.exception.word, "room")

    def test_other_words(self):
        for word in ("width", "", "Error", "rooms", None, 0, ["error"], {}, ("room",), True):
            with self.assertRaises(BadFlight) as told:
                worse(example(), word, 10 ** 9)
            self.assertIs(told.exception.thing, word)


class Margins(unittest.TestCase):
    def test_against_each_more(self):
        told = {word: {} for word in WORDS}
        # With false points and errors there are soon too many pictures to go through; is_sure was tested with them.
        small = [(craft, belief, fuel) for _, craft, belief, fuel in cases(60, 310000)]
        for craft, belief, fuel in small + [(craft, belief, 9) for _, craft, belief in look_cases(60, 310000)]:
            for goal in GOALS:
                for word in WORDS:
                    right = margin_plain(craft, goal, belief, fuel, word)
                    self.assertEqual(margin(craft, goal, belief, fuel, word, NEVER), right)
                    told[word][right] = told[word].get(right, 0) + 1
        for word in WORDS:
            self.assertGreater(min(told[word].get(right, 0) for right in (-1, 0, 12)), 3)
            self.assertGreaterEqual(len(told[word]), 3)

    def test_worse_is_never_better(self):
        for _, craft, belief, fuel in cases(150, 320000, most_points=3):
            for goal in GOALS:
                for word in WORDS:
                    other = worse(craft, word, 1)
                    if word == "room" and Trial(other, goal).is_sure(belief, fuel):
                        self.assertTrue(Trial(craft, goal).is_sure(belief, fuel))
                    if is_sure(other, goal, belief, fuel, NEVER):
                        self.assertTrue(is_sure(craft, goal, belief, fuel, NEVER))

    def test_room(self):
        # It lands three cells from the rim.
        sky = Sky(Ground([(0, 0, 2)]), Camera(1, 1, 0, 0, 0), (0,), (0, 9, 0, 0))
        craft = Craft((sky,), (0, 0), 0, (land(1, STILL), step(1, (-1, 0), STILL)))
        self.assertEqual(margin(craft, "land", ((0, 5, 0),), 1, "room", NEVER), 2)
        self.assertEqual(margin(craft, "land", ((0, 5, 0),), 3, "room", NEVER), 4)
        self.assertEqual(margin(craft, "land", ((0, 5, 0),), 60, "room", NEVER), 6)
        self.assertEqual(margin(craft, "land", ((0, 2, 0),), 1, "room", NEVER), -1)
        for word in WORDS[:3]:
            self.assertEqual(margin(craft, "land", ((0, 5, 0),), 1, word, NEVER), 12)
            self.assertEqual(margin(craft, "land", ((0, 5, 0),), 0, word, NEVER), -1)
        keeping = Craft((sky,), (0, 0), 0, (away(3),))
        self.assertEqual([margin(keeping, "keep", ((0, 0, 0),), fuel, "room", NEVER) for fuel in (2, 3)], [-1, 12])

    def test_looks(self):
        # A look tells both apart while no crater may be lost, no point be false, and it is surely in.
        craft = example()
        self.assertEqual([margin(craft, "land", BOTH, 5, word, NEVER) for word in WORDS], [0, 0, 0, 0])
        self.assertEqual([margin(craft, "land", BOTH, 4, word, NEVER) for word in WORDS], [-1, -1, -1, -1])
        wide = Sky(Ground([(0, 0, 1), (0, 0, 1), (0, 0, 1)]), Camera(5, 5, 0, 0, 0), (0,), (-3, 2, 2, 2))
        craft = Craft((wide,), (0, 2), 0, (land(1, STILL), look(1, 0), step(1, (-1, 0), STILL)))
        belief = ((0, -1, 2), (0, 2, 2))
        self.assertEqual([margin(craft, "land", belief, 5, word, NEVER) for word in WORDS], [1, 2, 2, 0])

    def test_cameras_at_their_bounds(self):
        sky = Sky(Ground([]), Camera(3, 1, 95, 100, 88), (0,), (0, 3, 0, 0))
        craft = Craft((sky,), (0, 0), 993, (land(1, STILL), look(1, 0)))
        for word, right in (("error", 5), ("false", 0), ("lost", 12), ("room", 7)):
            self.assertEqual(margin(craft, "land", ((0, 0, 0),), 1, word, NEVER), right)
            self.assertEqual(margin(craft, "land", ((0, 0, 0),), 0, word, NEVER), -1)
        two = (Sky(Ground([]), Camera(3, 1, 0, 0, 0), (0,), (0, 3, 0, 0)), sky)
        craft = Craft(two, (0, 0), 1000, (land(1, STILL),))
        for word, right in (("error", 5), ("false", 0), ("lost", 12), ("room", 0)):
            self.assertEqual(margin(craft, "land", ((0, 0, 0),), 1, word, NEVER), right)

    def test_which_error_comes_first(self):
        craft = example()
        for word in ("width", "", None, ["room"], 3):
            with self.assertRaises(BadFlight) as told:
                margin(craft, "hover", (), -1, word, 0)
            self.assertIs(told.exception.thing, word)
        for word in WORDS:
            for belief in ((), [(0, 0, 0)], BOTH[::-1]):
                with self.assertRaises(BadBelief) as told:
                    margin(craft, "hover", belief, -1, word, 0)
                self.assertIs(told.exception.belief, belief)
            for fuel in (-1, 61, True):
                with self.assertRaises(BadFlight) as told:
                    margin(craft, "hover", BOTH, fuel, word, 0)
                self.assertIs(told.exception.thing, fuel)
            for goal in ("hover", None, ["land"]):
                with self.assertRaises(BadFlight) as told:
                    margin(craft, goal, BOTH, 5, word, 0)
                self.assertIs(told.exception.thing, goal)
            for goal in GOALS:
                with self.assertRaises(TooMany) as told:
                    margin(craft, goal, BOTH, 5, word, 0)
                self.assertEqual(told.exception.most, 0)

    def test_too_many(self):
        for seed in range(40):
            craft = random_craft(seed)
            belief = random_belief(Random(seed), craft)
            right = margin(craft, "land", belief, 6, "room", NEVER)
            for most in (1, 5, 50):
                try:
                    self.assertEqual(margin(craft, "land", belief, 6, "room", most), right)
                except TooMany as e:
                    self.assertEqual(e.most, most)


if __name__ == "__main__":
    unittest.main()
