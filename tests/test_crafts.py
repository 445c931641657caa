"""[28], [29]: crafts, where they can be, and where they are safe."""

import unittest
from random import Random

from moonfall.crafts import Craft
from moonfall.deeds import away, land, look, step, turn
from moonfall.grounds import Camera, Ground, Sky
from moonfall.landererrors import BadBelief, BadCraft, BadFlight
from plain import places_of, turned_plain
from plaincraft import STILL, is_over_plain, is_safe_plain, random_belief, random_craft


def sky_of(craters=((0, 0, 1),), turns=(0,), area=(-1, 2, 0, 0), width=3):
    return Sky(Ground(craters), Camera(width, 1, 0, 0, 0), turns, area)


class Crafts(unittest.TestCase):
    def word_of(self, *parts):
        try:
            Craft(*parts)
        except BadCraft as e:
            return e.word
        return None

    def test_attributes(self):
        skies = (sky_of(), sky_of(width=5))
        deeds = (land(1, STILL), look(1, 1), away(3))
        craft = Craft(skies, (2, -1), 4, deeds)
        self.assertEqual((craft.skies, craft.foot, craft.room, craft.deeds), (skies, (2, -1), 4, deeds))
        self.assertEqual(Craft(skies[:1], (0, 0), 0, ()).deeds, ())

    def test_skies(self):
        sky = sky_of()
        for right in ((sky,), (sky, sky), (sky, sky_of(width=9)), (sky, Sky(Ground([(0, 0, 1)]), Camera(7, 7, 1, 2, 3),
                                                                           (0,), (-1, 2, 0, 0)))):
            self.assertIsNone(self.word_of(right, (0, 0), 0, ()))
        for wrong in ((), [sky], [], None, sky, 0, (None,), (sky, None), (sky.ground,), (sky, sky_of(((0, 0, 2),))),
                      (sky, sky_of(((0, 0, 1), (0, 0, 1)))), (sky, sky_of(())), (sky, sky_of(turns=(1,))),
                      (sky, sky_of(turns=(0, 1))), (sky, sky_of(area=(-1, 3, 0, 0))),
                      (sky, sky, sky_of(area=(-1, 2, 0, 1)))):
            self.assertEqual(self.word_of(wrong, (0, 0), 0, ()), "skies")

    def test_feet(self):
        for right in ((0, 0), (1000, -1000), (-1000, 1000)):
            self.assertIsNone(self.word_of((sky_of(),), right, 0, ()))
        for wrong in ((1001, 0), (0, -1001), (0, 1001), [0, 0], (0,), (0, 0, 0), (True, 0), (0, False), (0, 1.0), None,
                      0, "00"):
            self.assertEqual(self.word_of((sky_of(),), wrong, 0, ()), "foot")

    def test_rooms(self):
        for right in (0, 1, 1000):
            self.assertIsNone(self.word_of((sky_of(),), (0, 0), right, ()))
        for wrong in (-1, 1001, True, False, None, "0", 0.0, (0,)):
            self.assertEqual(self.word_of((sky_of(),), (0, 0), wrong, ()), "room")

    def test_deeds(self):
        sky = sky_of()
        self.assertIsNone(self.word_of((sky, sky), (0, 0), 0, (look(1, 0), look(1, 1), look(1, 1), turn(1, 3))))
        for wrong in ([], [land(1, STILL)], None, land(1, STILL), (None,), (land(1, STILL), "land"), (look(1, 2),),
                      (land(1, STILL), look(1, 1000)), ("land",), (sky,)):
            self.assertEqual(self.word_of((sky, sky), (0, 0), 0, wrong), "deeds")
        self.assertEqual(self.word_of((sky,), (0, 0), 0, (look(1, 1),)), "deeds")

    def test_which_comes_first(self):
        wrong = (None, None, None, None)
        right = ((sky_of(),), (0, 0), 0, ())
        for at, word in enumerate(("skies", "foot", "room", "deeds")):
            self.assertEqual(self.word_of(*right[:at], *wrong[at:]), word)

    def test_equality(self):
        def made(sky=None, foot=(0, 0), room=0, deeds=(land(1, STILL),)):
            return Craft((sky or sky_of(),), foot, room, deeds)
        self.assertTrue(made() == made())
        for other in (made(sky_of(width=4)), made(sky_of(((0, 0, 2),))), made(foot=(0, 1)), made(room=1),
                      made(deeds=()), made(deeds=(land(2, STILL),)),
                      Craft((sky_of(), sky_of()), (0, 0), 0, (land(1, STILL),)), None, 0,
                      ((sky_of(),), (0, 0), 0, (land(1, STILL),)), sky_of()):
            self.assertIs(made() == other, False)
            self.assertIs(made() != other, True)


class Places(unittest.TestCase):
    def test_is_over(self):
        craft = Craft((sky_of(turns=(0, 2), area=(-1, 2, 3, 4)),), (0, 0), 0, ())
        known = set(craft.skies[0].standings())
        for quarters in range(-1, 5):
            for a in range(-3, 5):
                for b in range(1, 7):
                    self.assertIs(craft.is_over((quarters, a, b)), (quarters, a, b) in known)
        for thing in (None, (0, 0), [0, 0, 3], (False, 0, 3), (0, 0, 3.0)):
            self.assertIs(craft.is_over(thing), False)

    def test_is_safe_at_the_bound(self):
        for size, room in ((1, 0), (1, 2), (3, 0), (2, 5)):
            craft = Craft((sky_of(((0, 0, size),)),), (7, -2), room, ())
            reach = size + room
            for far, is_safe in ((reach, False), (reach + 1, True), (0, False), (reach - 1, False)):
                for a, b in ((far, 0), (-far, 0), (0, far), (0, -far), (far, far - 1), (1 - far, -far)):
                    self.assertIs(craft.is_safe((0, 7 + a, b - 2)), is_safe, (size, room, far, a, b))

    def test_is_safe(self):
        told = {True: 0, False: 0}
        for seed in range(300):
            craft = random_craft(seed)
            for quarters in range(4):
                for a, b in ((0, 0), (1, -2), (-4, 1), (3, 0), (50, 50), (-1000, 3)):
                    right = is_safe_plain(craft, (quarters, a, b))
                    self.assertIs(craft.is_safe((quarters, a, b)), right)
                    told[right] += 1
        self.assertGreater(min(told.values()), 500)
        self.assertIs(Craft((sky_of(()),), (0, 0), 1000, ()).is_safe((3, 5, 5)), True)

    def test_cell_below(self):
        for seed in range(100):
            craft = random_craft(seed)
            for quarters in range(4):
                for a, b in ((0, 0), (5, -3), (-2, 7)):
                    x, y = craft.cell_below((quarters, a, b))
                    sky = Sky(Ground([(x, y, 1)]), craft.skies[0].camera, (0,), (0, 0, 0, 0))
                    self.assertEqual(places_of(sky, (quarters, a, b)), [(*craft.foot, 1)])
        craft = Craft((sky_of(),), (3, 1), 0, ())
        told = [craft.cell_below((quarters, 1, 0)) for quarters in range(4)]
        self.assertEqual(told, [(2, 1), (1, -2), (-2, -1), (-1, 2)])

    def test_stepped(self):
        craft = Craft((sky_of(),), (3, 1), 0, ())
        self.assertEqual(craft.stepped((2, 5, 7), (1, -4)), (2, 4, 11))
        for seed in range(100):
            craft = random_craft(seed)
            sky = craft.skies[0]
            dice = Random(seed)
            standing = (dice.randint(0, 3), dice.randint(-9, 9), dice.randint(-9, 9))
            shift = (dice.randint(-9, 9), dice.randint(-9, 9))
            ahead, end = places_of(sky, standing), places_of(sky, craft.stepped(standing, shift))
            # What is seen goes the other way, so the foot comes to be over what was so far from it.
            self.assertEqual(end, [(x - shift[0], y - shift[1], size) for x, y, size in ahead])

    def test_swung(self):
        craft = Craft((sky_of(),), (3, 1), 0, ())
        told = [craft.swung((1, 4, 1), quarters) for quarters in (1, 2, 3)]
        self.assertEqual(told, [(2, 3, 2), (3, 2, 1), (0, 3, 0)])
        for seed in range(100):
            craft = random_craft(seed)
            sky = craft.skies[0]
            right, down = craft.foot
            dice = Random(seed)
            standing = (dice.randint(0, 3), dice.randint(-9, 9), dice.randint(-9, 9))
            for quarters in (1, 2, 3):
                told = []
                for x, y, size in places_of(sky, standing):
                    x, y = turned_plain(x - right, y - down, quarters)
                    told.append((x + right, y + down, size))
                end = craft.swung(standing, quarters)
                self.assertEqual(places_of(sky, end), told)
                self.assertIn(end[0], (0, 1, 2, 3))
                # The foot stays where it is.
                self.assertEqual(craft.cell_below(end), craft.cell_below(standing))


class Checks(unittest.TestCase):
    def setUp(self):
        self.craft = Craft((sky_of(turns=(0, 1)),), (0, 0), 0, (land(1, STILL),))

    def test_beliefs(self):
        for right in (((0, 0, 0),), ((0, -1, 0), (0, 2, 0), (1, -1, 0)), self.craft.skies[0].standings()):
            self.assertIsNone(self.craft.check_belief(right))
        for wrong in ((), [], [(0, 0, 0)], None, 0, "", (0, 0, 0), ((0, 0, 0), (0, 0, 0)), ((0, 1, 0), (0, 0, 0)),
                      ((1, 0, 0), (0, 0, 0)), ((0, 3, 0),), ((2, 0, 0),), ((0, 0, 1),), ((0, 0, 0), None), (None,),
                      ([0, 0, 0],), ((False, 0, 0),), ((0, 0, 0), (0, True, 0)), ((0, 0),), {(0, 0, 0): 1}):
            for call in (lambda: self.craft.check_belief(wrong), lambda: self.craft.check_start(wrong, -1)):
                with self.assertRaises(BadBelief) as told:
                    call()
                self.assertIs(told.exception.belief, wrong)

    def test_starts(self):
        for fuel in (0, 1, 59, 60):
            self.assertIsNone(self.craft.check_start(((0, 0, 0),), fuel))
        for fuel in (-1, 61, True, False, None, "1", 1.0, (1,)):
            with self.assertRaises(BadFlight) as told:
                self.craft.check_start(((0, 0, 0),), fuel)
            self.assertIs(told.exception.thing, fuel)

    def test_random_beliefs(self):
        for seed in range(200):
            craft = random_craft(seed)
            belief = random_belief(Random(seed), craft, 6)
            self.assertIsNone(craft.check_belief(belief))
            self.assertTrue(all(is_over_plain(craft, standing) for standing in belief))
            if len(belief) > 1:
                with self.assertRaises(BadBelief):
                    craft.check_belief(belief[::-1])


if __name__ == "__main__":
    unittest.main()
