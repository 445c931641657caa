"""[10] to [12]: what looks alike."""

import unittest
from itertools import product
from random import Random

from moonfall.alike import alike_to, apart, are_alike, holds_apart, is_blind, picture_for
from moonfall.errors import BadStanding
from moonfall.fitting import fits
from moonfall.grounds import Camera, Ground, Sky
from moonfall.safeness import with_slack
from plain import (all_pictures, are_alike_plain, fits_plain, greatest_put, places_of, random_sky, sure_of,
                   looks_as_one_plain)


def pairs_of(sky, dice, many):
    standings = sky.standings()
    return [(dice.choice(standings), dice.choice(standings)) for _ in range(many)]


def paper_holds(sky, one, other, paper):
    """By the words of [11]."""
    at, numbers = paper
    first, second = (other, one) if at else (one, other)
    here, there = places_of(sky, first), places_of(sky, second)
    met = {d for d, place in enumerate(there) for c in numbers if looks_as_one_plain(sky, here[c], place)}
    slack = sky.camera.lost + sky.camera.false
    return set(numbers) <= set(sure_of(sky, first)) and len(numbers) - len(met) > slack


class AllPictures(unittest.TestCase):
    def test_against_all_pictures(self):
        told = {True: 0, False: 0}
        for seed in range(700):
            sky = random_sky(seed, most=4, frame=(3, 2), sizes=1 + seed % 2, slacks=(0, 0, 1), least=2)
            need = {s: max(0, len(sure_of(sky, s)) - sky.camera.lost) for s in sky.standings()}
            for one, other in pairs_of(sky, Random(seed), 3):
                # Points that no crater surely in needs can be left out: so that many are enough.
                if need[one] + need[other] > 4:
                    continue
                right = any(fits_plain(sky, picture, one) and fits_plain(sky, picture, other)
                            for picture in all_pictures(sky, need[one] + need[other]))
                told[right] += 1
                self.assertIs(are_alike(sky, one, other), right, (seed, one, other))
                self.assertIs(are_alike_plain(sky, one, other), right)
        self.assertGreater(min(told.values()), 100)

    def test_against_the_rule(self):
        told = {True: 0, False: 0}
        for seed in range(500):
            sky = random_sky(seed, most=8, frame=(8, 7), slacks=(0, 0, 1, 2), errors=(0, 1, 1, 2), least=2)
            for one, other in pairs_of(sky, Random(seed), 4):
                right = are_alike_plain(sky, one, other)
                told[right] += 1
                self.assertIs(are_alike(sky, one, other), right)
                self.assertIs(are_alike(sky, other, one), right)
                picture = picture_for(sky, one, other)
                self.assertEqual(picture is not None, right)
                self.assertEqual(picture_for(sky, one, other), picture)
                if right:
                    self.assertIsNone(sky.camera.check_picture(picture))
                    self.assertTrue(fits_plain(sky, picture, one) and fits_plain(sky, picture, other))
                    self.assertTrue(fits(sky, picture, one) and fits(sky, picture, other))
        self.assertGreater(min(told.values()), 150)

    def test_itself(self):
        for seed in range(50):
            sky = random_sky(seed)
            for one in sky.standings():
                self.assertTrue(are_alike(sky, one, one))
                self.assertTrue(fits_plain(sky, picture_for(sky, one, one), one))

    def test_only_the_sum_counts(self):
        for seed in range(80):
            dice = Random(seed)
            sky = random_sky(seed, most=6, frame=(6, 5))
            total = sky.camera.lost + sky.camera.false
            c = sky.camera
            skies = [Sky(sky.ground, Camera(c.width, c.height, c.error, k, total - k), sky.turns, sky.area)
                     for k in range(total + 1)]
            for one, other in pairs_of(sky, dice, 4):
                told = {are_alike(each, one, other) for each in skies + [with_slack(sky, total)]}
                self.assertEqual(len(told), 1)
                for each in skies:
                    picture = picture_for(each, one, other)
                    if picture is not None:
                        self.assertTrue(fits_plain(each, picture, one) and fits_plain(each, picture, other))

    def test_who_is_not_sure_gives_way(self):
        # Crater 0 is not surely in at the other standing, where crater 1 is: one partner is left for both.
        ground = Ground([(0, 0, 1), (1, 0, 1)])
        for lost in (0, 1):
            for false in (0, 1):
                sky = Sky(ground, Camera(5, 5, 1, false, lost), (0,), (-1, 4, 2, 2))
                for one, other in product(sky.standings(), repeat=2):
                    picture = picture_for(sky, one, other)
                    self.assertEqual(picture is not None, are_alike_plain(sky, one, other))
                    if picture is not None:
                        self.assertTrue(fits_plain(sky, picture, one) and fits_plain(sky, picture, other))

    def test_hundred(self):
        ground = Ground([(k, 0, 1) for k in range(100)])
        sky = Sky(ground, Camera(60, 3, 1, 2, 3), (0, 2), (-40, 100, 1, 1))
        self.assertTrue(are_alike(sky, (0, -20, 1), (0, -10, 1)))
        self.assertTrue(are_alike(sky, (0, -20, 1), (2, 80, 1)))
        self.assertFalse(are_alike(sky, (0, -20, 1), (0, 50, 1)))
        picture = picture_for(sky, (0, -20, 1), (2, 80, 1))
        self.assertTrue(fits(sky, picture, (0, -20, 1)) and fits(sky, picture, (2, 80, 1)))


class Papers(unittest.TestCase):
    def test_papers(self):
        kinds = {None: 0, 0: 0, 1: 0}
        for seed in range(500):
            sky = random_sky(seed, most=8, frame=(8, 7), slacks=(0, 0, 1, 2), errors=(0, 1, 1, 2), least=2)
            dice = Random(seed)
            pairs = pairs_of(sky, dice, 3)
            # Of the sky or not, both are let.
            pairs.append(((dice.randint(0, 3), dice.randint(-5, 5), 1), (dice.randint(0, 3), dice.randint(-5, 5), 2)))
            for one, other in pairs:
                paper = apart(sky, one, other)
                self.assertEqual(apart(sky, one, other), paper)
                self.assertEqual(paper is None, are_alike_plain(sky, one, other))
                kinds[paper and paper[0]] += 1
                if paper is None:
                    continue
                self.assertEqual((type(paper), type(paper[0]), type(paper[1])), (tuple, int, tuple))
                self.assertTrue(paper_holds(sky, one, other, paper))
                self.assertIs(holds_apart(sky, one, other, paper), True)
                self.assertIs(holds_apart(sky, other, one, (1 - paper[0], paper[1])), True)
                here, there = places_of(sky, one), places_of(sky, other)
                rows = [[d for d, q in enumerate(there) if looks_as_one_plain(sky, here[c], q)]
                        for c in sure_of(sky, one)]
                is_first = len(rows) - greatest_put(rows) > sky.camera.lost + sky.camera.false
                self.assertEqual(paper[0] == 0, is_first)
        self.assertGreater(min(kinds.values()), 100)

    def test_random_papers(self):
        dice = Random(4)
        told = {True: 0, False: 0}
        for seed in range(300):
            sky = random_sky(seed, most=8, frame=(8, 7), slacks=(0, 0, 1), least=2)
            many = len(sky.ground.craters)
            for one, other in pairs_of(sky, dice, 4):
                paper = (dice.randint(0, 1), tuple(dice.sample(range(many), dice.randint(0, many))))
                right = paper_holds(sky, one, other, paper)
                told[right] += 1
                self.assertIs(holds_apart(sky, one, other, paper), right)
        self.assertGreater(min(told.values()), 25)

    def test_wrong_papers(self):
        sky = Sky(Ground([(0, 0, 1), (1, 0, 1), (3, 0, 2), (9, 9, 1)]), Camera(4, 1, 0, 0, 1), (0,), (-4, 4, 0, 0))
        one, other = (0, 0, 0), (0, 4, 0)
        for right in ((0, (0, 1)), (0, (1, 0)), (0, (0, 1, 2)), (0, (2, 0))):
            self.assertIs(holds_apart(sky, one, other, right), True, right)
            self.assertIs(holds_apart(sky, other, one, (1, right[1])), True, right)
        for wrong in (None, 0, (), (0,), [0, (0, 1)], (0, [0, 1]), (0, 0, 1), (0, (0, 1), 0), (1, (0, 1)),
                      (2, (0, 1)), (-1, (0, 1)), (False, (0, 1)), ("0", (0, 1)), (None, (0, 1)), (0, None),
                      (0, (0, 0)), (0, (0, 3)), (0, (0, 4)), (0, (0, -1)), (0, (False, 1)), (0, (0, True)),
                      (0, (0,)), (0, ()), (0, ("0", 1)), (0, ([], 1)), (0.0, (0, 1)), {0: (0, 1)}, "ab",
                      (0, (0, 1.0))):
            self.assertIs(holds_apart(sky, one, other, wrong), False, wrong)
        for at in (True, 2, -1, 1.0, "1"):
            self.assertIs(holds_apart(sky, other, one, (at, (0, 1))), False)


class Standings(unittest.TestCase):
    def setUp(self):
        self.sky = Sky(Ground([(0, 0, 1), (2, 0, 1), (5, 0, 1)]), Camera(4, 1, 0, 0, 0), (0,), (-4, 1, 0, 0))

    def test_bad_standing(self):
        in_it = (0, 0, 0)
        for asked in (are_alike, picture_for):
            for bad in ((0, 2, 0), (1, 0, 0), [0, 0, 0], None, (False, 0, 0)):
                for one, other, told in ((bad, in_it, bad), (in_it, bad, bad), (bad, (0, 9, 9), bad),
                                         ((0, 9, 9), bad, (0, 9, 9))):
                    with self.assertRaises(BadStanding) as e:
                        asked(self.sky, one, other)
                    self.assertEqual(e.exception.standing, told)
        for bad in ((0, 2, 0), (0, 0), None):
            with self.assertRaises(BadStanding) as e:
                alike_to(self.sky, bad)
            self.assertEqual(e.exception.standing, bad)

    def test_out_of_the_sky(self):
        self.assertIsNone(apart(self.sky, (0, 100, 0), (3, 7, 100)))
        paper = apart(self.sky, (2, 2, 0), (0, 100, 0))
        self.assertEqual(paper[0], 0)
        self.assertTrue(holds_apart(self.sky, (2, 2, 0), (0, 100, 0), paper))

    def test_is_blind(self):
        ground = Ground([(k, 0, 1) for k in range(6)])
        for lost, false in ((0, 0), (1, 0), (0, 1), (2, 1), (1, 2)):
            sky = Sky(ground, Camera(4, 1, 0, false, lost), (0,), (-6, 4, 0, 0))
            for a in range(-7, 6):
                self.assertIs(is_blind(sky, (0, a, 0)), len(sure_of(sky, (0, a, 0))) <= lost + false)
            self.assertTrue(is_blind(sky, (0, 4 - lost - false, 0)))
            self.assertFalse(is_blind(sky, (0, 3 - lost - false, 0)))

    def test_alike_to(self):
        many = 0
        for seed in range(250):
            sky = random_sky(seed, spans=(5, 4), most=5, frame=(5, 4), slacks=(0, 0, 0, 1), errors=(0, 0, 1, 2))
            for one in Random(seed).sample(sky.standings(), min(3, len(sky.standings()))):
                right = tuple([other for other in sky.standings() if are_alike_plain(sky, one, other)])
                self.assertEqual(alike_to(sky, one), right)
                self.assertIn(one, right)
                many += 1 < len(right) < len(sky.standings())
        self.assertGreater(many, 150)

    def test_alike_to_with_great_errors(self):
        some = 0
        for seed in range(40):
            dice = Random(seed)
            ground = Ground([(dice.randint(0, 40), dice.randint(0, 6), 1) for _ in range(6)])
            camera = Camera(30, 20, dice.randint(3, 5), 0, 0)
            sky = Sky(ground, camera, (0, 2), (-12, 12, 6, 7))
            one = dice.choice(sky.standings())
            right = tuple([other for other in sky.standings() if are_alike_plain(sky, one, other)])
            self.assertEqual(alike_to(sky, one), right)
            some += 2 < len(right) < 90
        self.assertGreater(some, 20)

    def test_alike_to_in_a_great_sky(self):
        dice = Random(2)
        ground = Ground([(dice.randint(-90, 90), dice.randint(-90, 90), dice.randint(1, 3)) for _ in range(60)])
        sky = Sky(ground, Camera(50, 50, 1, 1, 1), (0, 1, 2, 3), (-50, 49, -50, 49))
        for one in dice.sample(sky.standings(), 6):
            found = alike_to(sky, one)
            self.assertEqual(list(found), sorted(set(found)))
            self.assertIn(one, found)
            for other in dice.sample(sky.standings(), 50) + list(found[:50]):
                self.assertEqual(other in found, are_alike_plain(sky, one, other))


if __name__ == "__main__":
    unittest.main()
