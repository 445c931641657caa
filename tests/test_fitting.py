"""[7] and [8]: what fits, and what shows it."""

import unittest
from random import Random

from moonfall.fitting import against, fits, holds_against, shows_fit, who
from moonfall.grounds import Camera, Ground, Sky
from plain import all_pictures, can_be_of, fits_plain, greatest_put, places_of, random_picture, random_sky, sure_of


def cases(many, start=0):
    for seed in range(start, start + many):
        dice = Random(seed)
        sky = random_sky(seed)
        away = (dice.randint(0, 3), dice.randint(-3, 3), dice.randint(-3, 3))
        for standing in dice.sample(sky.standings(), min(4, len(sky.standings()))) + [away]:
            for _ in range(3):
                yield sky, random_picture(sky, dice), standing


def shows_plain(sky, picture, standing, pairs):
    places = places_of(sky, standing)
    if len(set(pairs.values())) < len(pairs):
        return False
    if not all(can_be_of(sky, picture[point], places[crater]) for point, crater in pairs.items()):
        return False
    lost = set(sure_of(sky, standing)) - set(pairs.values())
    return len(picture) - len(pairs) <= sky.camera.false and len(lost) <= sky.camera.lost


class Fitting(unittest.TestCase):
    def test_against_all_ways(self):
        told = {True: 0, False: 0}
        for sky, picture, standing in cases(400):
            right = fits_plain(sky, picture, standing)
            told[right] += 1
            self.assertIs(fits(sky, picture, standing), right)
            pairs = who(sky, picture, standing)
            self.assertEqual(pairs is not None, right)
            if right:
                self.assertIs(type(pairs), dict)
                self.assertEqual(list(pairs), sorted(pairs))
                self.assertTrue(shows_plain(sky, picture, standing, pairs))
                self.assertIs(shows_fit(sky, picture, standing, pairs), True)
            self.assertEqual(who(sky, picture, standing), pairs)
        self.assertGreater(min(told.values()), 500)

    def test_order_of_points_is_free(self):
        for sky, picture, standing in cases(100, 1000):
            self.assertIs(fits(sky, picture[::-1], standing), fits(sky, picture, standing))

    def test_all_small_pictures(self):
        ground = Ground([(0, 0, 1), (1, 0, 1), (1, 0, 1)])
        for error in (0, 1):
            for false in (0, 1):
                for lost in (0, 1, 2):
                    sky = Sky(ground, Camera(3, 1, error, false, lost), (0, 2), (0, 1, 0, 0))
                    for picture in all_pictures(sky, 3):
                        for standing in sky.standings():
                            self.assertIs(fits(sky, picture, standing), fits_plain(sky, picture, standing))

    def test_empty(self):
        bare = Sky(Ground([]), Camera(3, 3, 0, 1, 0), (0,), (0, 0, 0, 0))
        self.assertTrue(fits(bare, (), (0, 0, 0)))
        self.assertEqual(who(bare, (), (0, 0, 0)), {})
        self.assertEqual(who(bare, ((0, 0, 1),), (0, 0, 0)), {})
        self.assertTrue(shows_fit(bare, (), (0, 0, 0), {}))
        self.assertFalse(fits(bare, ((0, 0, 1), (0, 0, 1)), (0, 0, 0)))
        self.assertIsNone(who(bare, ((0, 0, 1), (0, 0, 1)), (0, 0, 0)))
        self.assertEqual(against(bare, ((0, 0, 1), (0, 0, 1)), (0, 0, 0)), ("points", (0, 1)))

    def test_hundred(self):
        ground = Ground([(k % 10, k // 10, 1) for k in range(100)])
        sky = Sky(ground, Camera(10, 10, 1, 3, 2), (0,), (0, 0, 0, 0))
        picture = tuple([(min(9, k % 10 + 1), k // 10, 1) for k in range(100)])
        self.assertEqual(sorted(who(sky, picture, (0, 0, 0)).values()), list(range(100)))
        self.assertTrue(fits(sky, picture + picture[:3], (0, 0, 0)))
        self.assertFalse(fits(sky, picture + picture[:4], (0, 0, 0)))
        # One row of a chain: all must be moved along for the last one.
        chain = Sky(Ground([(k, 0, 1) for k in range(100)]), Camera(101, 1, 0, 0, 0), (0,), (0, 0, 0, 0))
        wide = Sky(chain.ground, Camera(201, 201, 1, 0, 0), (0,), (1, 1, 1, 1))
        self.assertTrue(fits(chain, tuple([(k, 0, 1) for k in range(100)][::-1]), (0, 0, 0)))
        self.assertTrue(fits(wide, tuple([(k, 1, 1) for k in range(100)][::-1]), (0, 1, 1)))
        self.assertFalse(fits(wide, tuple([(k, 1, 1) for k in range(100)] + [(50, 1, 1)]), (0, 1, 1)))

    def test_sizes_count(self):
        sky = Sky(Ground([(0, 0, 2)]), Camera(1, 1, 0, 0, 0), (0,), (0, 0, 0, 0))
        self.assertTrue(fits(sky, ((0, 0, 2),), (0, 0, 0)))
        self.assertFalse(fits(sky, ((0, 0, 1),), (0, 0, 0)))


class ShowsFit(unittest.TestCase):
    def setUp(self):
        ground = Ground([(0, 0, 1), (3, 0, 1), (3, 0, 2), (9, 9, 1)])
        self.sky = Sky(ground, Camera(6, 3, 1, 1, 1), (0,), (0, 3, 0, 3))
        self.standing = (0, 1, 1)
        self.picture = ((2, 1, 1), (4, 2, 1), (4, 1, 2))

    def shows(self, pairs):
        return shows_fit(self.sky, self.picture, self.standing, pairs)

    def test_right(self):
        self.assertEqual(self.sky.sure_craters(self.standing), [0, 1, 2])
        for pairs in ({0: 0, 1: 1, 2: 2}, {2: 2, 0: 0, 1: 1}, {0: 0, 1: 1}, {1: 1, 2: 2}):
            self.assertIs(self.shows(pairs), True)

    def test_no_dict(self):
        for thing in (None, 0, (), [], [(0, 0), (1, 1), (2, 2)], ((0, 0), (1, 1), (2, 2)), "x"):
            self.assertIs(self.shows(thing), False)

    def test_wrong_numbers(self):
        for pairs in ({0: 0, 1: 1, 3: 2}, {0: 0, 1: 1, -1: 2}, {0: 0, 1: 1, 2: 4}, {0: 0, 1: 1, 2: -2},
                      {0: 0, True: 1, 2: 2}, {False: 0, 1: 1, 2: 2}, {0: False, 1: 1, 2: 2}, {0: 0, 1: True, 2: 2},
                      {0: 0, 1: 1, "2": 2}, {0: 0, 1: 1, 2: "2"}, {0: 0, 1: 1, 2: [2]}, {0: 0, 1: 1, 2: None},
                      {0: 0, 1: 1, (2,): 2}, {0: 0.0, 1: 1, 2: 2}, {0.0: 0, 1: 1, 2: 2}):
            self.assertIs(self.shows(pairs), False, pairs)

    def test_wrong_pairs(self):
        self.assertFalse(shows_fit(self.sky, ((1, 1, 1), (1, 1, 1), (4, 1, 1)), self.standing, {0: 0, 1: 0, 2: 1}))
        self.assertFalse(self.shows({0: 0, 1: 2, 2: 1}))
        self.assertFalse(self.shows({0: 1, 1: 0, 2: 2}))
        self.assertFalse(self.shows({0: 0}))
        self.assertFalse(self.shows({}))
        far = ((3, 1, 1), (4, 2, 1), (4, 1, 2))
        self.assertFalse(shows_fit(self.sky, far, self.standing, {0: 0, 1: 1, 2: 2}))

    def test_too_many_left_out(self):
        strict = Sky(self.sky.ground, Camera(6, 3, 1, 0, 1), (0,), (0, 3, 0, 3))
        self.assertFalse(shows_fit(strict, self.picture, self.standing, {0: 0, 1: 1}))
        self.assertTrue(shows_fit(strict, self.picture[:2], self.standing, {0: 0, 1: 1}))
        all_seen = Sky(self.sky.ground, Camera(6, 3, 1, 1, 0), (0,), (0, 3, 0, 3))
        self.assertFalse(shows_fit(all_seen, self.picture, self.standing, {0: 0, 1: 1}))

    def test_random_pairs(self):
        dice = Random(5)
        told = {True: 0, False: 0}
        for sky, picture, standing in cases(300, 2000):
            craters = len(sky.ground.craters)
            pairs = who(sky, picture, standing) or {}
            pairs = {point: crater for point, crater in pairs.items() if dice.random() < 0.9}
            if picture and craters and dice.random() < 0.3:
                pairs[dice.randrange(len(picture))] = dice.randrange(craters)
            right = shows_plain(sky, picture, standing, pairs)
            told[right] += 1
            self.assertIs(shows_fit(sky, picture, standing, pairs), right)
        self.assertGreater(min(told.values()), 300)


def paper_holds(sky, picture, standing, paper):
    """By the words of [8]."""
    word, numbers = paper
    places = places_of(sky, standing)
    if word == "points":
        met = {n for n, place in enumerate(places) for k in numbers if can_be_of(sky, picture[k], place)}
        return len(numbers) - len(met) > sky.camera.false
    met = {k for k, point in enumerate(picture) for n in numbers if can_be_of(sky, point, places[n])}
    return set(numbers) <= set(sure_of(sky, standing)) and len(numbers) - len(met) > sky.camera.lost


class Against(unittest.TestCase):
    def test_papers(self):
        words = {"points": 0, "craters": 0, None: 0}
        for sky, picture, standing in cases(400, 4000):
            paper = against(sky, picture, standing)
            self.assertEqual(against(sky, picture, standing), paper)
            self.assertEqual(paper is None, fits_plain(sky, picture, standing))
            words[paper and paper[0]] += 1
            if paper is None:
                continue
            word, numbers = paper
            self.assertEqual((type(paper), type(numbers)), (tuple, tuple))
            self.assertEqual(len(set(numbers)), len(numbers))
            self.assertTrue(paper_holds(sky, picture, standing, paper))
            self.assertIs(holds_against(sky, picture, standing, paper), True)
            places = places_of(sky, standing)
            rows = [[n for n, place in enumerate(places) if can_be_of(sky, point, place)] for point in picture]
            is_of_points = len(picture) - greatest_put(rows) > sky.camera.false
            self.assertEqual(word == "points", is_of_points)
        self.assertGreater(min(words.values()), 100)

    def test_wrong_papers(self):
        sky = Sky(Ground([(0, 0, 1), (1, 0, 1), (9, 0, 1)]), Camera(4, 1, 0, 1, 1), (0,), (0, 0, 0, 0))
        picture = ((3, 0, 1), (3, 0, 1), (2, 0, 1))
        for right in (("points", (0, 1)), ("points", (2, 0)), ("points", (2, 1, 0)), ("craters", (0, 1)),
                      ("craters", (1, 0))):
            self.assertIs(holds_against(sky, picture, (0, 0, 0), right), True, right)
        for wrong in (None, 0, "points", (), ("points",), ["points", (0, 1)], ("points", [0, 1]), ("points", 0, 1),
                      ("points", (0, 1), 0), ("point", (0, 1)), (0, (0, 1)), (None, (0, 1)), ("points", None),
                      ("points", (0, 0)), ("points", (0, 3)), ("points", (0, -1)), ("points", (False, 2)),
                      ("points", (0, True)), ("points", (0,)), ("points", ()), ("craters", (0,)), ("craters", ()),
                      ("craters", (0, 0)), ("craters", (0, 2)), ("craters", (0, 1, 2)), ("craters", (0, 3)),
                      ("craters", (0, -2)), ("craters", (False, 1)), ("craters", [0, 1]), ("points", (0, "1")),
                      ("points", (0, [])), ([], (0, 1)), {"points": (0, 1)}, ("craters", (0, 1.0))):
            self.assertIs(holds_against(sky, picture, (0, 0, 0), wrong), False, wrong)

    def test_not_short_enough(self):
        sky = Sky(Ground([(0, 0, 1), (1, 0, 1)]), Camera(4, 1, 0, 0, 0), (0,), (0, 0, 0, 0))
        picture = ((0, 0, 1), (0, 0, 1), (1, 0, 1))
        self.assertTrue(holds_against(sky, picture, (0, 0, 0), ("points", (0, 1))))
        self.assertTrue(holds_against(sky, picture, (0, 0, 0), ("points", (0, 1, 2))))
        self.assertFalse(holds_against(sky, picture, (0, 0, 0), ("points", (0, 2))))
        self.assertFalse(holds_against(sky, picture, (0, 0, 0), ("craters", (0, 1))))
        self.assertTrue(holds_against(sky, picture[:2], (0, 0, 0), ("craters", (1,))))
        self.assertFalse(holds_against(sky, picture[:2], (0, 0, 0), ("craters", (0,))))
        self.assertEqual(against(sky, picture[:2], (0, 0, 0))[0], "points")
        self.assertEqual(against(sky, picture[:1], (0, 0, 0)), ("craters", (1,)))

    def test_random_papers(self):
        dice = Random(8)
        told = {True: 0, False: 0}
        for sky, picture, standing in cases(300, 6000):
            for word, many in (("points", len(picture)), ("craters", len(sky.ground.craters))):
                numbers = tuple(dice.sample(range(many), dice.randint(0, many)))
                right = paper_holds(sky, picture, standing, (word, numbers))
                told[right] += 1
                self.assertIs(holds_against(sky, picture, standing, (word, numbers)), right)
        self.assertGreater(min(told.values()), 100)


if __name__ == "__main__":
    unittest.main()
