"""[9]: readings, votes, how near standings are."""

import unittest
from random import Random

from moonfall.errors import BadPicture
from moonfall.grounds import Camera, Ground, Sky
from moonfall.reading import is_near, plain_reading, reading, spread
from moonfall.voting import voted_reading, votes_for
from plain import can_be_of, fits_plain, near_plain, places_of, random_picture, random_sky


def votes_plain(sky, picture, turn):
    low_a, high_a, low_b, high_b = sky.area
    votes = {}
    for a in range(low_a, high_a + 1):
        for b in range(low_b, high_b + 1):
            places = places_of(sky, (turn, a, b))
            many = sum(any(can_be_of(sky, point, place) for place in places) for point in picture)
            if many:
                votes[(a, b)] = many
    return votes


class Readings(unittest.TestCase):
    def test_all_three(self):
        few = 0
        for seed in range(250):
            dice = Random(seed)
            sky = random_sky(seed, spans=(4, 4), most=5)
            for _ in range(4):
                picture = random_picture(sky, dice, 5)
                right = tuple([standing for standing in sky.standings() if fits_plain(sky, picture, standing)])
                self.assertEqual(reading(sky, picture), right)
                self.assertEqual(plain_reading(sky, picture), right)
                found, looked = voted_reading(sky, picture)
                self.assertEqual(found, right)
                self.assertEqual((type(found), type(reading(sky, picture))), (tuple, tuple))
                self.assertLessEqual(len(right), looked)
                if len(picture) <= sky.camera.false:
                    few += 1
                    self.assertEqual(looked, len(sky.standings()))
                    continue
                least = len(picture) - sky.camera.false
                voted = [1 for turn in sky.turns for many in votes_plain(sky, picture, turn).values() if many >= least]
                self.assertLessEqual(looked, len(voted))
        self.assertGreater(few, 100)

    def test_at_most_false_points(self):
        sky = Sky(Ground([(0, 0, 1), (1, 1, 1)]), Camera(2, 2, 0, 2, 1), (0, 1), (-3, 3, -3, 3))
        for picture in ((), ((0, 0, 5),), ((0, 0, 5), (1, 1, 1))):
            found, looked = voted_reading(sky, picture)
            self.assertEqual(looked, 98)
            right = tuple([standing for standing in sky.standings() if fits_plain(sky, picture, standing)])
            self.assertEqual(found, right)
            self.assertEqual(plain_reading(sky, picture), right)

    def test_more_points_than_craters(self):
        sky = Sky(Ground([(0, 0, 1)]), Camera(2, 2, 1, 0, 1), (0,), (-3, 3, -3, 3))
        found, looked = voted_reading(sky, ((0, 0, 1), (1, 1, 1)))
        self.assertEqual(found, ())
        self.assertLessEqual(looked, 49)

    def test_great_sky(self):
        dice = Random(3)
        ground = Ground([(dice.randint(-150, 150), dice.randint(-150, 150), dice.randint(1, 3)) for _ in range(100)])
        sky = Sky(ground, Camera(60, 60, 1, 1, 2), (0, 1, 2, 3), (-50, 49, -50, 49))
        picture = tuple([place for place in places_of(sky, (2, 7, -9)) if sky.camera.is_sure(*place[:2])])
        found, looked = voted_reading(sky, picture[1:] + ((0, 0, 9),))
        self.assertIn((2, 7, -9), found)
        self.assertLess(looked, 400)
        self.assertEqual(plain_reading(sky, picture[1:] + ((0, 0, 9),)), found)

    def test_great_error(self):
        ground = Ground([(k * 3, k * 2 % 7, 1 + k % 2) for k in range(60)])
        sky = Sky(ground, Camera(300, 250, 100, 0, 60), (0,), (-100, 99, -100, 99))
        picture = tuple([(x, 100, 1) for x in range(90, 120, 3)])
        self.assertEqual(votes_for(sky, picture[:1], 0)[0, 0], 1)
        found, looked = voted_reading(sky, picture)
        self.assertEqual(found, plain_reading(sky, picture))
        self.assertEqual(looked, len([1 for many in votes_for(sky, picture, 0).values() if many >= 10]))

    def test_bad_pictures(self):
        sky = Sky(Ground([(0, 0, 1)]), Camera(2, 2, 0, 9, 0), (0,), (0, 0, 0, 0))
        for asked in (reading, plain_reading, voted_reading):
            for picture, number in (([], 0), (None, 0), (((0, 0, 1), (2, 0, 1)), 1), (((0, 0, 1), [0, 0, 1]), 1),
                                    (((0, 0, True),), 0), (((0, 0, 1), (0, 0, 1), (0, 0, 0), None), 2)):
                with self.assertRaises(BadPicture) as told:
                    asked(sky, picture)
                self.assertEqual(told.exception.number, number)


class Votes(unittest.TestCase):
    def test_by_hand(self):
        for seed in range(250):
            dice = Random(seed)
            sky = random_sky(seed, spans=(5, 5), most=5, errors=(0, 1, 2))
            picture = random_picture(sky, dice, 5)
            for turn in range(4):
                votes = votes_for(sky, picture, turn)
                self.assertIs(type(votes), dict)
                self.assertEqual(votes, votes_plain(sky, picture, turn))

    def test_no_zeros(self):
        sky = Sky(Ground([(0, 0, 1), (0, 0, 1), (1, 0, 1)]), Camera(3, 1, 0, 0, 0), (0,), (-1, 2, 0, 1))
        self.assertEqual(votes_for(sky, ((1, 0, 1), (1, 0, 1), (2, 0, 1)), 0), {(0, 0): 2, (1, 0): 3, (2, 0): 1})
        self.assertEqual(votes_for(sky, (), 0), {})
        self.assertEqual(votes_for(sky, ((1, 0, 2),), 0), {})


class Near(unittest.TestCase):
    def test_is_near(self):
        self.assertIs(is_near((0, 1, 2), (0, 1, 2), 0), True)
        self.assertIs(is_near((0, 1, 2), (0, 1, 3), 0), False)
        self.assertIs(is_near((0, 1, 2), (0, 2, 2), 0), False)
        self.assertIs(is_near((0, 1, 2), (1, 1, 2), 100), False)
        self.assertIs(is_near((0, 1, 2), (0, 4, -1), 3), True)
        self.assertIs(is_near((0, 4, -1), (0, 1, 2), 3), True)
        self.assertIs(is_near((0, 4, -1), (0, 1, 2), 2), False)
        self.assertIs(is_near((0, 4, -1), (0, 4, 2), 2), False)

    def test_spread(self):
        for rows in ((), []):
            self.assertEqual(spread(rows), 0)
        self.assertEqual(spread([(3, 5, 6)]), 0)
        self.assertEqual(spread(((3, 5, 6), (3, 5, 6))), 0)
        self.assertEqual(spread(((1, 0, 0), (1, 2, 1), (1, -1, 4))), 4)
        self.assertEqual(spread(((1, 0, 0), (1, 2, 1), (1, -3, 4))), 5)
        self.assertIsNone(spread(((1, 0, 0), (2, 0, 0))))
        self.assertIsNone(spread([(1, 0, 0), (1, 0, 0), (0, 0, 0)]))

    def test_spread_is_least(self):
        dice = Random(1)
        for _ in range(200):
            rows = [(0, dice.randint(-4, 4), dice.randint(-4, 4)) for _ in range(dice.randint(1, 4))]
            least = [reach for reach in range(10) if all(near_plain(one, other, reach) for one in rows for other in rows)]
            self.assertEqual(spread(rows), least[0])


if __name__ == "__main__":
    unittest.main()
