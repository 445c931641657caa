"""[22]: surveys of sites of which nobody knows whether they are craters."""

import unittest
from itertools import combinations
from random import Random

from moonfall.errors import BadGround, BadPicture, BadStanding
from moonfall.grounds import Camera, Ground, Sky
from moonfall.moreerrors import TooMany
from moonfall.surveys import Survey, grounds_for, possible_sites, sure_sites
from plain import NEVER, fits_plain, places_of

MILLION = 1000000


def sky_of(sites, camera):
    return Sky(Ground(sites), camera, (0,), (0, 0, 0, 0))


def rows_plain(survey):
    """All rows of sites by which all looks fit, by trying all."""
    rows = []
    for many in range(len(survey.sites) + 1):
        for row in combinations(survey.sites, many):
            sky = sky_of(row, survey.camera)
            if all(fits_plain(sky, picture, standing) for standing, picture in survey.looks):
                rows.append(row)
    return sorted(rows)


def picture_of_true(dice, sky, standing):
    """A picture that fits."""
    camera = sky.camera
    points = []
    free = camera.lost
    for x, y, size in places_of(sky, standing):
        if camera.is_sure(x, y):
            if free and dice.random() < 0.3:
                free -= 1
                continue
        elif dice.random() < 0.5:
            continue
        x += dice.randint(-camera.error, camera.error)
        y += dice.randint(-camera.error, camera.error)
        if 0 <= x < camera.width and 0 <= y < camera.height:
            points.append((x, y, size))
    points += [(dice.randrange(camera.width), dice.randrange(camera.height), 1)
               for _ in range(dice.randint(0, camera.false))]
    dice.shuffle(points)
    return tuple(points)


def random_survey(seed, many, looks):
    dice = Random(seed)
    sites = list({(dice.randint(-3, 3), dice.randint(-3, 3), dice.randint(1, 2)) for _ in range(dice.randint(0, many))})
    dice.shuffle(sites)
    camera = Camera(dice.randint(2, 6), dice.randint(2, 6), dice.choice((0, 0, 1)), dice.randint(0, 1),
                    dice.randint(0, 1))
    true = tuple(site for site in sorted(sites) if dice.random() < 0.6)
    seen = []
    for _ in range(dice.randint(0, looks)):
        standing = (dice.randint(0, 3), dice.randint(0, 4), dice.randint(0, 4))
        seen.append((standing, picture_of_true(dice, sky_of(true, camera), standing)))
    return dice, Survey(sites, camera, seen), true


class Surveys(unittest.TestCase):
    def check(self, survey):
        rows = rows_plain(survey)
        told = grounds_for(survey, NEVER)
        self.assertIs(type(told), list)
        self.assertEqual(told, rows)
        sure, possible = sure_sites(survey, NEVER), possible_sites(survey, NEVER)
        if not rows:
            self.assertEqual((sure, possible), (None, ()))
        else:
            self.assertEqual(sure, tuple(site for site in survey.sites if all(site in row for row in rows)))
            self.assertEqual(possible, tuple(site for site in survey.sites if any(site in row for row in rows)))
        return rows

    def test_pictures_of_true_craters(self):
        several = 0
        for seed in range(500):
            _, survey, true = random_survey(seed, 7, 3)
            rows = self.check(survey)
            self.assertIn(true, rows)
            several += 1 < len(rows) < 2 ** len(survey.sites)
        self.assertGreater(several, 100)

    def test_any_pictures(self):
        none = 0
        for seed in range(1000, 1400):
            dice, survey, _ = random_survey(seed, 6, 3)
            camera = survey.camera
            looks = [(standing, tuple((dice.randrange(camera.width), dice.randrange(camera.height), dice.randint(1, 2))
                                      for _ in range(dice.randint(0, 2))) if dice.random() < 0.4 else picture)
                     for standing, picture in survey.looks]
            none += not self.check(Survey(survey.sites, camera, looks))
        self.assertGreater(none, 30)

    def test_attributes(self):
        camera = Camera(4, 4, 0, 0, 0)
        sites = [(3, 0, 1), (-1, 5, 2), (-1, 5, 1)]
        looks = [[(0, 0, 0), ((3, 0, 1),)], ((1, 2, 2), ())]
        survey = Survey(sites, camera, looks)
        self.assertEqual(survey.sites, ((-1, 5, 1), (-1, 5, 2), (3, 0, 1)))
        self.assertIs(survey.camera, camera)
        self.assertEqual(survey.looks, (((0, 0, 0), ((3, 0, 1),)), ((1, 2, 2), ())))
        sites.append((0, 0, 1))
        looks.append(((0, 0, 0), ()))
        self.assertEqual((len(survey.sites), len(survey.looks)), (3, 2))
        self.assertEqual(grounds_for(Survey(tuple(sites[:3]), camera, tuple(looks[:2])), NEVER), self.check(survey))

    def test_without_looks(self):
        survey = Survey([(1, 0, 1), (0, 0, 1)], Camera(3, 1, 0, 0, 0), ())
        self.assertEqual(grounds_for(survey, NEVER), [(), ((0, 0, 1),), ((0, 0, 1), (1, 0, 1)), ((1, 0, 1),)])
        self.assertEqual(sure_sites(survey, NEVER), ())
        self.assertEqual(possible_sites(survey, NEVER), ((0, 0, 1), (1, 0, 1)))

    def test_without_sites(self):
        camera = Camera(3, 1, 0, 0, 0)
        self.assertEqual(grounds_for(Survey((), camera, ()), NEVER), [()])
        self.assertEqual(sure_sites(Survey((), camera, ()), NEVER), ())
        seen = Survey((), camera, (((0, 0, 0), ((0, 0, 1),)),))
        self.assertEqual(grounds_for(seen, NEVER), [])
        self.assertEqual((sure_sites(seen, NEVER), possible_sites(seen, NEVER)), (None, ()))

    def test_looks_tell_more_together(self):
        camera = Camera(7, 3, 1, 0, 0)
        one, two, three = sites = [(1, 1, 1), (2, 1, 1), (3, 1, 1)]
        first = ((0, 0, 0), ((2, 1, 1),))
        self.assertEqual(self.check(Survey(sites, camera, (first,))), [(one,), (two,), (three,)])
        survey = Survey(sites, camera, (first, ((0, 1, 0), ((4, 0, 1),))))
        self.assertEqual(self.check(survey), [(two,), (three,)])
        survey = Survey(sites, camera, (first, ((0, 1, 0), ((4, 0, 1),)), ((2, 4, 2), ((3, 1, 1),))))
        self.assertEqual((self.check(survey), sure_sites(survey, NEVER)), ([(two,)], (two,)))

    def test_a_hundred_sites(self):
        sites = [(k, 0, 1) for k in range(100)]
        camera = Camera(40, 1, 0, 0, 0)
        seen = tuple((k, 0, 1) for k in range(0, 40, 3))
        rest = tuple((k, 0, 1) for k in range(0, 40, 4))
        survey = Survey(sites, camera, (((0, 0, 0), seen), ((0, -50, 0), rest)))
        right = tuple(site for site in sites if site[0] % 3 == 0 and site[0] < 40
                      or site[0] % 4 == 2 and 50 <= site[0] < 90)
        self.assertEqual(sure_sites(survey, NEVER), right)
        open_sites = tuple(site for site in sites if 40 <= site[0] < 50 or site[0] >= 90)
        self.assertEqual(possible_sites(survey, NEVER), tuple(sorted(right + open_sites)))
        narrow = Survey(sites[:50], camera, (((0, 0, 0), seen),))
        self.assertEqual(len(grounds_for(narrow, NEVER)), 2 ** 10)


class Errors(unittest.TestCase):
    def setUp(self):
        self.camera = Camera(3, 2, 0, 0, 0)

    def number_of_wrong(self, sites, looks=()):
        with self.assertRaises(BadGround) as told:
            Survey(sites, self.camera, looks)
        return told.exception.number

    def test_sites(self):
        for wrong in (None, 1, [0, 0, 1], (0, 0), (0, 0, 0), (0, 0, 100), (True, 0, 1), (0, 0, True), (0, 0, 1.0),
                      (MILLION + 1, 0, 1), (0, -MILLION - 1, 1), (5, 5, 1)):
            self.assertEqual(self.number_of_wrong([(5, 5, 1), (5, 5, 2), wrong, None]), 2, wrong)
        edges = [(MILLION, -MILLION, 99), (-MILLION, MILLION, 1)]
        self.assertEqual(Survey(edges, self.camera, ()).sites, tuple(sorted(edges)))

    def test_hundred(self):
        sites = [(k, 0, 1) for k in range(100)]
        self.assertEqual(len(Survey(sites, self.camera, ()).sites), 100)
        self.assertEqual(self.number_of_wrong(sites + [(100, 0, 1)]), 100)
        self.assertEqual(self.number_of_wrong(sites + [None]), 100)
        self.assertEqual(self.number_of_wrong(sites[:99] + [(0, 0, 1), (100, 0, 1)]), 99)

    def test_looks(self):
        for wrong in ([0, 0, 0], (4, 0, 0), (-1, 0, 0), (0, MILLION + 1, 0), (0, 0, -MILLION - 1), (True, 0, 0), (0, 0),
                      (0, 0.0, 0), None, 0, (0, 0, 0, 0)):
            with self.assertRaises(BadStanding) as told:
                Survey([(0, 0, 1)], self.camera, [((0, 0, 0), ()), (wrong, None), ((0, 0, 0), None)])
            self.assertIs(told.exception.standing, wrong)
        for wrong, number in (([], 0), (None, 0), (((0, 0, 1), (3, 0, 1)), 1), (((0, 0, 1), (0, 0, 1), (0, 0, 0)), 2)):
            with self.assertRaises(BadPicture) as told:
                Survey([(0, 0, 1)], self.camera, [((0, 0, 0), ()), ((0, 0, 0), wrong), (None, ())])
            self.assertEqual(told.exception.number, number)
        edge = ((3, MILLION, -MILLION), ((2, 1, 99),))
        self.assertEqual(Survey([], self.camera, [edge]).looks, (edge,))

    def test_which_comes_first(self):
        self.assertEqual(self.number_of_wrong([(0, 0, 1), None], [(None, None)]), 1)
        with self.assertRaises(BadStanding):
            Survey([], self.camera, [(None, None)])
        with self.assertRaises(BadPicture):
            Survey([], self.camera, [((0, 0, 0), None), (None, ())])

    def test_too_many(self):
        survey = Survey([(0, 0, 1), (1, 0, 1)], self.camera, [((0, 0, 0), ((0, 0, 1),))])
        none = Survey([], self.camera, [((0, 0, 0), ((0, 0, 1),))])
        for call in (grounds_for, sure_sites, possible_sites):
            for each in (survey, none):
                with self.assertRaises(TooMany) as told:
                    call(each, 0)
                self.assertEqual(told.exception.most, 0)
            right = call(survey, NEVER)
            for most in range(1, 25):
                try:
                    self.assertEqual(call(survey, most), right)
                except TooMany as e:
                    self.assertEqual(e.most, most)


if __name__ == "__main__":
    unittest.main()
