"""[18]: one picture for many standings."""

import unittest
from itertools import combinations, product

from moonfall.alike import are_alike
from moonfall.answers import answers, common_picture
from moonfall.errors import BadStanding
from moonfall.grounds import Camera, Ground, Sky
from moonfall.moreerrors import TooMany
from plain import NEVER, all_pictures, fits_plain, lots_plain, points_enough, skies, turning_skies


class Commons(unittest.TestCase):
    def check(self, sky, lot, picture):
        self.assertIs(type(picture), tuple)
        self.assertIsNone(sky.camera.check_picture(picture))
        self.assertTrue(all(fits_plain(sky, picture, standing) for standing in lot))

    def test_against_all_pictures(self):
        told = {True: 0, False: 0}
        for frame, sizes, start in (((2, 2), 1, 0), ((3, 1), 2, 1000), ((4, 1), 1, 2000)):
            for dice, sky in skies(250, start, frame, sizes):
                lot = tuple(dice.choice(sky.standings()) for _ in range(dice.randint(2, 5)))
                most = points_enough(sky, lot)
                if most > 5:
                    continue
                right = any(all(fits_plain(sky, picture, standing) for standing in lot)
                            for picture in all_pictures(sky, most))
                picture = common_picture(sky, lot, NEVER)
                self.assertEqual(picture is not None, right, (sky.ground.craters, lot))
                told[right] += 1
                if right:
                    self.check(sky, lot, picture)
                self.assertEqual(common_picture(sky, list(lot), NEVER), picture)
        self.assertGreater(min(told.values()), 60)

    def test_three_alike_two_by_two(self):
        found = 0
        for dice, sky in skies(400, 3000, (3, 1), 1, (0, 1, 1)):
            for lot in combinations(dice.sample(sky.standings(), min(5, len(sky.standings()))), 3):
                if not all(are_alike(sky, one, other) for one, other in combinations(lot, 2)):
                    continue
                if common_picture(sky, lot, NEVER) is not None or points_enough(sky, lot) > 6:
                    continue
                found += 1
                self.assertFalse([1 for picture in all_pictures(sky, points_enough(sky, lot))
                                  if all(fits_plain(sky, picture, standing) for standing in lot)])
                pairs = [tuple(sorted(pair)) for pair in combinations(lot, 2)]
                self.assertEqual([told for told, _ in answers(sky, lot, NEVER)], sorted(pairs))
        self.assertGreater(found, 5)

    def test_three_by_hand(self):
        # Each standing has its crater elsewhere and lets one false point: two points are shown at most.
        sky = Sky(Ground([(0, 0, 1)]), Camera(3, 1, 0, 1, 0), (0,), (0, 2, 0, 0))
        one, two, three = sky.standings()
        self.assertTrue(are_alike(sky, one, two) and are_alike(sky, two, three) and are_alike(sky, one, three))
        self.assertEqual(common_picture(sky, (one, two), NEVER), ((0, 0, 1), (1, 0, 1)))
        self.assertIsNone(common_picture(sky, (one, two, three), NEVER))
        self.assertIsNone(common_picture(sky, (three, one, two, one), NEVER))
        self.assertEqual(answers(sky, (three, one, two), NEVER),
                         [((one, two), ((0, 0, 1), (1, 0, 1))), ((one, three), ((0, 0, 1), (2, 0, 1))),
                          ((two, three), ((1, 0, 1), (2, 0, 1)))])

    def test_empty_and_twice(self):
        sky = Sky(Ground([(0, 0, 1), (2, 0, 1), (5, 0, 1)]), Camera(4, 1, 0, 0, 0), (0,), (-4, 1, 0, 0))
        self.assertEqual(common_picture(sky, (), NEVER), ())
        self.assertEqual(common_picture(sky, [], NEVER), ())
        self.assertEqual(common_picture(sky, [(0, 0, 0)] * 3, NEVER), ((0, 0, 1), (2, 0, 1)))
        twice = [(0, -1, 0), (0, -4, 0), (0, -1, 0)]
        self.assertEqual(common_picture(sky, twice, NEVER), ((1, 0, 1),))
        self.assertEqual(answers(sky, twice, NEVER), [(((0, -4, 0), (0, -1, 0)), ((1, 0, 1),))])
        self.assertEqual(answers(sky, (), NEVER), [])
        self.assertEqual(twice, [(0, -1, 0), (0, -4, 0), (0, -1, 0)])

    def test_errors(self):
        sky = Sky(Ground([(0, 0, 1)]), Camera(4, 1, 0, 0, 0), (0,), (-4, 1, 0, 0))
        good = (0, 0, 0)
        for asked in (common_picture, answers):
            for bad in ((0, 2, 0), (1, 0, 0), [0, 0, 0], None, (False, 0, 0)):
                for most in (0, NEVER):
                    with self.assertRaises(BadStanding) as told:
                        asked(sky, (good, bad, None), most)
                    self.assertIs(told.exception.standing, bad)
            for lot in ((), (good,), (good, (0, 1, 0)), [good, good]):
                with self.assertRaises(TooMany) as told:
                    asked(sky, lot, 0)
                self.assertEqual(told.exception.most, 0)
                for most in range(1, 9):
                    try:
                        self.assertEqual(asked(sky, lot, most), asked(sky, lot, NEVER))
                    except TooMany as e:
                        self.assertEqual(e.most, most)


class Answers(unittest.TestCase):
    def check(self, sky, belief, told):
        self.assertIs(type(told), list)
        lots = [lot for lot, _ in told]
        self.assertEqual(lots, sorted(lots))
        for lot, picture in told:
            self.assertEqual((type(lot), list(lot)), (tuple, sorted(set(lot))))
            self.assertIsNone(sky.camera.check_picture(picture))
            self.assertEqual(lot, tuple(s for s in sorted(set(belief)) if fits_plain(sky, picture, s)))
        return lots

    def test_against_all_pictures(self):
        several = 0
        for frame, sizes, start in (((2, 2), 1, 0), ((3, 1), 2, 1000), ((4, 1), 1, 2000)):
            for dice, sky in skies(200, start, frame, sizes, (0, 0, 1, 1)):
                belief = [dice.choice(sky.standings()) for _ in range(dice.randint(2, 7))]
                most = points_enough(sky, belief)
                if most > 6:
                    continue
                told = answers(sky, belief, NEVER)
                self.assertEqual(self.check(sky, belief, told), lots_plain(sky, belief, most))
                self.assertEqual(answers(sky, tuple(belief), NEVER), told)
                several += 1 < len(told)
        self.assertGreater(several, 50)

    def test_against_all_lots(self):
        several = 0
        for dice, sky in skies(80, 7000, (6, 5), 2, (0, 0, 1), (0, 1), 12):
            belief = dice.sample(sky.standings(), min(6, len(sky.standings())))
            good = []
            for many in range(len(belief), 0, -1):
                for lot in combinations(sorted(belief), many):
                    if not any(set(lot) <= set(other) for other in good):
                        if common_picture(sky, lot, NEVER) is not None:
                            good.append(lot)
            told = answers(sky, belief, NEVER)
            self.assertEqual(self.check(sky, belief, told), sorted(good))
            several += 1 < len(told)
        self.assertGreater(several, 15)

    def test_where_the_same_is_seen(self):
        several = 0
        for dice, sky in turning_skies(50):
            belief = dice.sample(sky.standings(), 9)
            lots = self.check(sky, belief, answers(sky, belief, NEVER))
            self.assertEqual(lots, lots_plain(sky, belief, 4))
            several += len(lots) > 1
            whole = self.check(sky, sky.standings(), answers(sky, sky.standings(), NEVER))
            self.assertEqual(whole, lots_plain(sky, sky.standings(), 4))
        self.assertGreater(several, 25)

    def test_all_that_turn(self):
        sky = Sky(Ground([(-2, 0, 1)]), Camera(5, 5, 0, 1, 0), (0, 1, 2, 3), (-2, 2, -2, 2))
        told = answers(sky, sky.standings(), NEVER)
        self.check(sky, sky.standings(), told)
        # Of 25 places two are seen, or, where a standing sees none, one.
        seen = {place[:2] for standing in sky.standings() for place in sky.places(standing)}
        within = [place for place in seen if 0 <= min(place) and max(place) < 5]
        self.assertEqual(len(told), len(within) * (len(within) - 1) // 2 + len(within))

    def test_all_blind(self):
        sky = Sky(Ground([(0, 0, 1)]), Camera(3, 3, 0, 0, 1), (0, 1, 2, 3), (0, 9, 0, 9))
        told = answers(sky, sky.standings(), NEVER)
        self.assertEqual([lot for lot, _ in told], [sky.standings()])

    def test_all_unlike(self):
        ground = Ground([(x, y, 1 + (3 * x + 7 * y) % 11) for x, y in product(range(10), range(10))])
        sky = Sky(ground, Camera(4, 4, 0, 1, 1), (0,), (-6, 0, -6, 0))
        told = answers(sky, sky.standings(), NEVER)
        self.check(sky, sky.standings(), told)


if __name__ == "__main__":
    unittest.main()
