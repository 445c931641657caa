"""[30], [31]: where deeds lead to, and what can be seen."""

import unittest
from random import Random

from moonfall.beliefs import behind, ends_of, is_end, is_kept, outcomes, seen
from moonfall.crafts import Craft
from moonfall.deeds import away, land, look, step, turn
from moonfall.grounds import Camera, Ground, Sky
from moonfall.moreerrors import TooMany
from plain import NEVER, all_pictures, fits_plain, lots_plain, points_enough, random_picture
from plaincraft import (STILL, behind_plain, cases, ends_plain, is_kept_plain, is_safe_plain, random_belief,
                        random_craft)


def craft_of(area=(-1, 2, 0, 0), deeds=(), craters=((0, 0, 1),), turns=(0, 1, 2, 3)):
    return Craft((Sky(Ground(craters), Camera(3, 1, 0, 0, 0), turns, area),), (1, 0), 0, deeds)


class Ends(unittest.TestCase):
    def test_by_hand(self):
        craft = craft_of()
        standing = (1, 2, 0)
        slips = ((0, 0), (3, 1), (-1, 2))
        self.assertEqual(ends_of(craft, standing, step(1, (1, -1), slips)), [(1, -2, 0), (1, 1, 1), (1, 2, -1)])
        self.assertEqual(ends_of(craft, standing, land(1, slips)), [(1, -1, -1), (1, 2, 0), (1, 3, -2)])
        self.assertEqual(ends_of(craft, standing, turn(1, 1)), [(2, 1, 1)])
        self.assertEqual(ends_of(craft, standing, turn(1, 3)), [(0, 1, -1)])
        for deed in (look(1, 0), away(1)):
            self.assertEqual(ends_of(craft, standing, deed), [standing])
        self.assertEqual(ends_of(craft, (9, 9, 9), away(1)), [(9, 9, 9)])

    def test_against_words(self):
        for seed in range(300):
            craft = random_craft(seed)
            dice = Random(seed)
            belief = random_belief(dice, craft)
            for deed in craft.deeds:
                for standing in belief + ((2, 70, -70),):
                    told = ends_of(craft, standing, deed)
                    if deed.kind in ("look", "away"):
                        self.assertEqual(told, [standing])
                    else:
                        self.assertEqual(told, sorted(ends_plain(craft, standing, deed)))
                    self.assertIs(type(told), list)
                for row in (belief, list(belief[::-1]), belief + belief):
                    self.assertEqual(behind(craft, row, deed), behind_plain(craft, belief, deed))
                self.assertIs(is_kept(craft, belief, deed), is_kept_plain(craft, belief, deed))

    def test_behind_what_cant_be(self):
        craft = craft_of()
        self.assertEqual(behind(craft, ((0, -1, 0), (0, 2, 0)), step(1, (1, 0), STILL)), ((0, -2, 0), (0, 1, 0)))
        self.assertEqual(behind(craft, ((0, -1, 0), (0, 0, 0)), step(1, (0, 0), ((0, 0), (-1, 0)))),
                         ((0, -1, 0), (0, 0, 0), (0, 1, 0)))

    def test_is_kept_at_the_edge(self):
        craft = craft_of()
        for a, aim, is_whole in ((-1, (1, 0), False), (0, (1, 0), True), (2, (-1, 0), False), (2, (0, 1), False),
                                 (1, (-1, 0), True)):
            self.assertIs(is_kept(craft, ((0, a, 0),), step(1, aim, STILL)), is_whole)
        self.assertIs(is_kept(craft, ((0, 0, 0),), step(1, (1, 0), ((0, 0), (1, 0)))), False)
        self.assertIs(is_kept(craft, ((0, 0, 0), (0, 1, 0)), step(1, (1, 0), STILL)), True)
        self.assertIs(is_kept(craft, ((0, -1, 0), (0, 1, 0)), step(1, (1, 0), STILL)), False)
        # About the foot at (1, 0): a turn of what is not at it leads out of the row.
        self.assertIs(is_kept(craft, ((0, 1, 0),), turn(1, 1)), True)
        self.assertIs(is_kept(craft, ((0, 0, 0),), turn(1, 1)), False)
        self.assertIs(is_kept(craft, ((0, 0, 0),), turn(1, 2)), True)
        self.assertIs(is_kept(craft_of(turns=(0,)), ((0, 0, 0),), turn(1, 2)), False)
        for deed in (look(1, 0), away(1)):
            self.assertIs(is_kept(craft, ((0, -1, 0), (3, 2, 0)), deed), True)

    def test_landing(self):
        # The crater of size 1 is at (a, 0), the foot at (1, 0).
        craft = craft_of(area=(-9, 9, -9, 9))
        for a, is_whole in ((-1, True), (0, False), (1, False), (2, False), (3, True)):
            self.assertIs(is_kept(craft, ((0, a, 0),), land(1, STILL)), is_whole)
        self.assertIs(is_kept(craft, ((0, 3, 0), (0, 2, 0)), land(1, STILL)), False)
        self.assertIs(is_kept(craft, ((0, 3, 0),), land(1, ((0, 0), (1, 0)))), False)
        self.assertIs(is_kept(craft, ((0, 3, 0),), land(1, ((0, 0), (-1, 0), (1, 2)))), True)

    def test_landing_where_one_cant_be(self):
        craft = craft_of(area=(-1, -1, 0, 0))
        self.assertIs(is_kept(craft, ((0, -1, 0),), land(1, ((5, 5), (40, 0)))), True)
        self.assertIs(is_kept(craft, ((0, -1, 0),), step(1, (0, 0), ((40, 0),))), False)
        self.assertTrue(is_safe_plain(craft, (0, -41, 0)))

    def test_is_end(self):
        deeds = (step(1, (0, 0), STILL), turn(1, 1), look(1, 0), land(1, STILL), away(1))
        self.assertEqual([is_end(deed) for deed in deeds], [False, False, False, True, True])


class Seeing(unittest.TestCase):
    def test_seen(self):
        for seed in range(200):
            craft = random_craft(seed)
            dice = Random(seed)
            belief = random_belief(dice, craft, 6)
            for number, sky in enumerate(craft.skies):
                picture = random_picture(sky, dice, 3)
                told = seen(craft, belief, look(1, number), picture)
                self.assertEqual(told, tuple(standing for standing in belief if fits_plain(sky, picture, standing)))

    def test_by_which_camera(self):
        ground = Ground([(0, 0, 1)])
        skies = tuple(Sky(ground, Camera(width, 1, 0, 0, 0), (0,), (-1, 2, 0, 0)) for width in (1, 3))
        craft = Craft(skies, (0, 0), 0, ())
        belief = ((0, -1, 0), (0, 0, 0), (0, 1, 0))
        self.assertEqual(seen(craft, belief, look(1, 0), ()), ((0, -1, 0), (0, 1, 0)))
        self.assertEqual(seen(craft, belief, look(1, 1), ()), ((0, -1, 0),))
        self.assertEqual(seen(craft, belief, look(1, 1), ((2, 0, 1),)), ())

    def test_outcomes_against_all_pictures(self):
        several = 0
        for dice, craft, belief, _ in cases(1000, 0):
            for deed in craft.deeds:
                if is_end(deed):
                    continue
                told = outcomes(craft, belief, deed, NEVER)
                self.assertIs(type(told), list)
                if deed.kind != "look":
                    self.assertEqual(told, [(behind_plain(craft, belief, deed), None)])
                    continue
                sky = craft.skies[deed.aim]
                most = points_enough(sky, belief)
                self.assertEqual([lot for lot, _ in told], lots_plain(sky, belief, most))
                for lot, picture in told:
                    self.assertEqual(seen(craft, belief, deed, picture), lot)
                for picture in all_pictures(sky, min(most, 2)):
                    fitted = set(seen(craft, belief, deed, picture))
                    self.assertTrue(not fitted or any(fitted <= set(lot) for lot, _ in told))
                several += len(told) > 1
        self.assertGreater(several, 80)

    def test_outcomes_that_cant_be(self):
        craft = craft_of()
        self.assertEqual(outcomes(craft, ((0, -1, 0),), step(1, (1, 0), STILL), NEVER), [(((0, -2, 0),), None)])

    def test_too_many(self):
        craft = craft_of()
        belief = ((0, -1, 0), (0, 1, 0))
        with self.assertRaises(TooMany) as told:
            outcomes(craft, belief, look(1, 0), 0)
        self.assertEqual(told.exception.most, 0)
        self.assertEqual(outcomes(craft, belief, step(1, (0, 0), STILL), 0), [(belief, None)])
        right = outcomes(craft, belief, look(1, 0), NEVER)
        for most in range(1, 10):
            try:
                self.assertEqual(outcomes(craft, belief, look(1, 0), most), right)
            except TooMany as e:
                self.assertEqual(e.most, most)


if __name__ == "__main__":
    unittest.main()
