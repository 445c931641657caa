"""[2] to [6]: grounds, cameras, skies."""

import unittest

from moonfall.errors import BadCamera, BadGround, BadPicture, BadSky, BadStanding
from moonfall.grounds import Camera, Ground, Sky, turned
from plain import places_of, random_sky, sure_of

MILLION = 1000000


def number_of_wrong(craters):
    try:
        Ground(craters)
    except BadGround as e:
        return e.number
    return None


class Grounds(unittest.TestCase):
    def test_ascending(self):
        rows = [(5, 1, 2), (-1, 4, 1), (5, 1, 1), (5, 1, 2)]
        kept = list(rows)
        ground = Ground(rows)
        self.assertEqual(ground.craters, ((-1, 4, 1), (5, 1, 1), (5, 1, 2), (5, 1, 2)))
        self.assertIs(type(ground.craters), tuple)
        self.assertEqual(rows, kept)
        rows.append((0, 0, 1))
        self.assertEqual(len(ground.craters), 4)
        self.assertEqual(Ground(tuple(kept)), ground)
        self.assertEqual(Ground([]).craters, ())
        self.assertEqual(Ground(()).craters, ())

    def test_equality(self):
        self.assertTrue(Ground([(1, 2, 3), (0, 0, 1)]) == Ground(((0, 0, 1), (1, 2, 3))))
        self.assertFalse(Ground([(1, 2, 3)]) == Ground([(1, 2, 3), (1, 2, 3)]))
        self.assertTrue(Ground([(1, 2, 3)]) != Ground([(1, 2, 4)]))
        for thing in (((1, 2, 3),), None, 0, "x", Camera(1, 1, 0, 0, 0)):
            self.assertIs(Ground([(1, 2, 3)]) == thing, False)

    def test_no_points(self):
        for thing in (None, 1, "abc", [0, 0, 1], (0, 0), (0, 0, 1, 1), (0, 0, "1"), (True, 0, 1), (0, False, 1),
                      (0, 0, True), (0, 0, 1.0), (0.0, 0, 1), {}, (0, None, 1)):
            self.assertEqual(number_of_wrong([(0, 0, 1), thing, None]), 1, thing)

    def test_sizes(self):
        self.assertIsNone(number_of_wrong([(0, 0, 1), (0, 0, 99)]))
        self.assertEqual(number_of_wrong([(0, 0, 1), (0, 0, 1), (0, 0, 0)]), 2)
        self.assertEqual(number_of_wrong([(0, 0, 100)]), 0)
        self.assertEqual(number_of_wrong([(0, 0, -1)]), 0)

    def test_edges_of_places(self):
        for sign in (-1, 1):
            self.assertIsNone(number_of_wrong([(sign * MILLION, 0, 1), (0, sign * MILLION, 1)]))
            self.assertEqual(number_of_wrong([(sign * (MILLION + 1), 0, 1)]), 0)
            self.assertEqual(number_of_wrong([(0, 0, 1), (0, sign * (MILLION + 1), 1)]), 1)

    def test_hundred(self):
        rows = [(k, 0, 1) for k in range(100)]
        self.assertIsNone(number_of_wrong(rows))
        self.assertEqual(number_of_wrong(rows + [(100, 0, 1)]), 100)
        self.assertEqual(number_of_wrong(rows + [(100, 0, 1), None]), 100)
        self.assertEqual(number_of_wrong(rows + [None]), 100)
        self.assertEqual(number_of_wrong(rows[:40] + [None] + rows), 40)
        self.assertEqual(number_of_wrong(rows[:99] + [None] + rows), 99)


class Turns(unittest.TestCase):
    def test_turned(self):
        self.assertEqual([turned(3, 5, turn) for turn in range(4)], [(3, 5), (-5, 3), (-3, -5), (5, -3)])

    def test_places(self):
        ground = Ground([(3, 5, 2), (-1, 0, 1)])
        sky = Sky(ground, Camera(9, 9, 0, 0, 0), (0, 1, 2, 3), (0, 0, 0, 0))
        self.assertEqual(sky.places((0, 10, 20)), [(9, 20, 1), (13, 25, 2)])
        self.assertEqual(sky.places((1, 10, 20)), [(10, 19, 1), (5, 23, 2)])
        self.assertEqual(sky.places((2, 10, 20)), [(11, 20, 1), (7, 15, 2)])
        self.assertEqual(sky.places((3, 10, 20)), [(10, 21, 1), (15, 17, 2)])
        self.assertEqual(sky.place((3, 5, 2), (3, 10, 20)), (15, 17, 2))
        self.assertEqual(sky.place((7, 7, 99), (1, -1, -2)), (-8, 5, 99))


class Cameras(unittest.TestCase):
    def word_of(self, *numbers):
        try:
            Camera(*numbers)
        except BadCamera as e:
            return e.word
        return None

    def test_words(self):
        bounds = (("width", 1, 1000), ("height", 1, 1000), ("error", 0, 100), ("false", 0, 100), ("lost", 0, 100))
        for at, (word, low, high) in enumerate(bounds):
            right = [1, 1, 0, 0, 0]
            for number in (low, high):
                right[at] = number
                self.assertIsNone(self.word_of(*right))
            for wrong in (low - 1, high + 1, True, False, None, "1", 1.0, (1,)):
                right[at] = wrong
                self.assertEqual(self.word_of(*right), word, wrong)

    def test_first_word(self):
        words = ("width", "height", "error", "false", "lost")
        for at, word in enumerate(words):
            self.assertEqual(self.word_of(*([1] * at + [-1] * (5 - at))), word)

    def test_attributes_and_equality(self):
        camera = Camera(4, 3, 2, 1, 5)
        self.assertEqual((camera.width, camera.height, camera.error, camera.false, camera.lost), (4, 3, 2, 1, 5))
        self.assertTrue(camera == Camera(4, 3, 2, 1, 5))
        for other in ((5, 3, 2, 1, 5), (4, 4, 2, 1, 5), (4, 3, 1, 1, 5), (4, 3, 2, 2, 5), (4, 3, 2, 1, 4)):
            self.assertFalse(camera == Camera(*other))
        for thing in ((4, 3, 2, 1, 5), None, 4, Ground([])):
            self.assertIs(camera == thing, False)

    def test_edges(self):
        camera = Camera(9, 7, 2, 0, 0)
        for x, is_in in ((1, False), (2, True), (6, True), (7, False)):
            self.assertIs(camera.is_sure(x, 3), is_in)
        for y, is_in in ((1, False), (2, True), (4, True), (5, False)):
            self.assertIs(camera.is_sure(4, y), is_in)
        for x, is_in in ((-3, False), (-2, True), (10, True), (11, False)):
            self.assertIs(camera.is_maybe(x, 3), is_in)
        for y, is_in in ((-3, False), (-2, True), (8, True), (9, False)):
            self.assertIs(camera.is_maybe(4, y), is_in)

    def test_no_error(self):
        camera = Camera(2, 1, 0, 0, 0)
        for x in range(-2, 4):
            for y in range(-2, 3):
                is_in = 0 <= x < 2 and y == 0
                self.assertIs(camera.is_sure(x, y), is_in)
                self.assertIs(camera.is_maybe(x, y), is_in)

    def test_nothing_is_sure(self):
        for camera in (Camera(4, 9, 2, 0, 0), Camera(9, 4, 2, 0, 0), Camera(3, 3, 100, 0, 0)):
            self.assertFalse([x for x in range(-9, 12) for y in range(-9, 12) if camera.is_sure(x, y)])
        self.assertTrue(Camera(3, 3, 100, 0, 0).is_maybe(-100, 102))
        self.assertFalse(Camera(3, 3, 100, 0, 0).is_maybe(-101, 0))

    def wrong_in(self, picture):
        try:
            Camera(3, 2, 1, 0, 0).check_picture(picture)
        except BadPicture as e:
            return e.number
        return None

    def test_pictures(self):
        for right in ((), ((0, 0, 1),), ((2, 1, 99), (0, 0, 1), (2, 1, 99))):
            self.assertIsNone(self.wrong_in(right))
        for thing in ([], [(0, 0, 1)], None, 0, "", {}):
            self.assertEqual(self.wrong_in(thing), 0)
        for wrong in ((3, 0, 1), (-1, 0, 1), (0, 2, 1), (0, -1, 1), (0, 0, 0), (0, 0, 100), [0, 0, 1], (0, 0),
                      (True, 0, 1), (0, 0, True), (0, 0, 1.0), None, (0, 0, 1, 1)):
            self.assertEqual(self.wrong_in((wrong,)), 0, wrong)
            self.assertEqual(self.wrong_in(((0, 0, 1), (1, 1, 1), wrong, wrong)), 2, wrong)


class Skies(unittest.TestCase):
    def setUp(self):
        self.ground = Ground([(0, 0, 1), (2, 0, 1), (5, 0, 1)])
        self.camera = Camera(4, 1, 0, 0, 0)

    def word_of(self, turns, area):
        try:
            Sky(self.ground, self.camera, turns, area)
        except BadSky as e:
            return e.word
        return None

    def test_turns(self):
        for right in ((0,), (3,), (0, 1), (0, 2, 3), (0, 1, 2, 3)):
            self.assertIsNone(self.word_of(right, (0, 0, 0, 0)))
        for wrong in ((), [0], [0, 1], (1, 0), (0, 0), (0, 1, 1), (4,), (-1,), (True,), (False, 1), (0, True), None, 0,
                      ("0",), (0.0,), "0"):
            self.assertEqual(self.word_of(wrong, (0, 0, 0, 0)), "turns", wrong)
            self.assertEqual(self.word_of(wrong, None), "turns", wrong)

    def test_areas(self):
        for right in ((0, 0, 0, 0), (-MILLION, -MILLION, MILLION, MILLION), (3, 4, -4, -3)):
            self.assertIsNone(self.word_of((0,), right))
        for wrong in ([0, 0, 0, 0], (), (0, 0, 0), (0, 0, 0, 0, 0), None, 0, (1, 0, 0, 0), (0, 0, 1, 0), "abcd",
                      (-MILLION - 1, -MILLION, 0, 0), (MILLION, MILLION + 1, 0, 0), (0, 0, -MILLION - 1, -MILLION),
                      (0, 0, MILLION, MILLION + 1), (True, 1, 0, 0), (0, 0, 0, True), (0, 0.0, 0, 0),
                      (0, 100000, 1, 0)):
            self.assertEqual(self.word_of((0,), wrong), "area", wrong)

    def test_great(self):
        self.assertIsNone(self.word_of((0,), (1, 200, 1, 200)))
        self.assertIsNone(self.word_of((0, 1, 2, 3), (1, 100, 1, 100)))
        self.assertIsNone(self.word_of((2,), (1, 40000, 5, 5)))
        self.assertEqual(self.word_of((2,), (1, 40001, 5, 5)), "great")
        self.assertEqual(self.word_of((0,), (5, 5, 0, 40000)), "great")
        self.assertEqual(self.word_of((0, 1, 2, 3), (1, 100, 1, 101)), "great")
        self.assertEqual(self.word_of((0,), (-MILLION, MILLION, -MILLION, MILLION)), "great")

    def test_all_standings(self):
        sky = Sky(self.ground, self.camera, (0, 1, 2, 3), (1, 100, -100, -1))
        standings = sky.standings()
        self.assertIs(type(standings), tuple)
        self.assertEqual(len(standings), 40000)
        self.assertEqual(list(standings), sorted(set(standings)))
        self.assertEqual((standings[0], standings[-1]), ((0, 1, -100), (3, 100, -1)))
        self.assertEqual(sky.standings(), standings)
        small = Sky(self.ground, self.camera, (1, 3), (0, 1, 5, 6))
        self.assertEqual(small.standings(), ((1, 0, 5), (1, 0, 6), (1, 1, 5), (1, 1, 6),
                                             (3, 0, 5), (3, 0, 6), (3, 1, 5), (3, 1, 6)))

    def test_is_standing(self):
        sky = Sky(self.ground, self.camera, (0, 1, 3), (-2, 4, 3, 5))
        known = set(sky.standings())
        for turn in range(-1, 5):
            for a in range(-4, 7):
                for b in range(1, 8):
                    self.assertIs(sky.is_standing((turn, a, b)), (turn, a, b) in known)
        for thing in (None, 0, "", [0, 0, 4], (0, 0), (0, 0, 4, 0), (False, 0, 4), (True, 0, 4), (0, True, 4),
                      (0, 0, 4.0), ("0", 0, 4), {}, ([], 0, 4), self.ground):
            self.assertIs(sky.is_standing(thing), False)
            with self.assertRaises(BadStanding) as told:
                sky.check_standing(thing)
            self.assertIs(told.exception.standing, thing)
        self.assertIsNone(sky.check_standing((3, 4, 5)))

    def test_sky_attributes(self):
        sky = Sky(self.ground, self.camera, (0, 2), (0, 1, 2, 3))
        self.assertEqual((sky.ground, sky.camera, sky.turns, sky.area),
                         (self.ground, self.camera, (0, 2), (0, 1, 2, 3)))
        self.assertTrue(sky == Sky(Ground(self.ground.craters), Camera(4, 1, 0, 0, 0), (0, 2), (0, 1, 2, 3)))
        self.assertFalse(sky == Sky(Ground([]), self.camera, (0, 2), (0, 1, 2, 3)))
        self.assertFalse(sky == Sky(self.ground, Camera(4, 1, 0, 0, 1), (0, 2), (0, 1, 2, 3)))
        self.assertFalse(sky == Sky(self.ground, self.camera, (0, 1), (0, 1, 2, 3)))
        self.assertFalse(sky == Sky(self.ground, self.camera, (0, 2), (0, 1, 2, 4)))
        for thing in (None, (self.ground, self.camera, (0, 2), (0, 1, 2, 3)), self.ground):
            self.assertIs(sky == thing, False)
            self.assertIs(sky != thing, True)

    def test_each_part_of_a_sky_counts(self):
        parts = (self.ground, self.camera, (0, 2), (0, 1, 2, 3))
        sky = Sky(*parts)
        self.assertIs(sky == Sky(*parts), True)
        others = [[Ground(self.ground.craters[1:]), Ground([*self.ground.craters, (5, 0, 1)])],
                  [Camera(*numbers) for numbers in ((5, 1, 0, 0, 0), (4, 2, 0, 0, 0), (4, 1, 1, 0, 0),
                                                    (4, 1, 0, 1, 0), (4, 1, 0, 0, 1))],
                  [(0,), (2,), (0, 1, 2), (0, 3)],
                  [(-1, 1, 2, 3), (0, 2, 2, 3), (0, 1, 1, 3), (0, 1, 2, 4)]]
        for at, unlike in enumerate(others):
            for part in unlike:
                other = Sky(*parts[:at], part, *parts[at + 1:])
                self.assertIs(sky == other, False)
                self.assertIs(other == sky, False)
                self.assertIs(sky != other, True)

    def test_places_and_sure_craters(self):
        for seed in range(80):
            sky = random_sky(seed, frame=(7, 6), most=6)
            away = [(turn, a, b) for turn in range(4) for a in (-4, 0, 3, 50) for b in (-3, 1, 2)]
            for standing in list(sky.standings()) + away:
                self.assertEqual(sky.places(standing), places_of(sky, standing))
                self.assertEqual(sky.sure_craters(standing), sure_of(sky, standing))
        self.assertIs(type(sky.places((0, 0, 0))), list)
        self.assertIs(type(sky.sure_craters((0, 0, 0))), list)

    def test_surely_in(self):
        sky = Sky(Ground([(0, 0, 1), (1, 0, 1), (2, 0, 1), (3, 0, 1)]), Camera(4, 3, 1, 0, 0), (0,), (0, 0, 0, 0))
        self.assertEqual(sky.sure_craters((0, 0, 1)), [1, 2])
        self.assertEqual(sky.sure_craters((0, 0, 0)), [])
        self.assertEqual(sky.sure_craters((2, 3, 1)), [1, 2])


if __name__ == "__main__":
    unittest.main()
