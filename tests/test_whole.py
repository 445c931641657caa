"""[1]: what is so, above all, of whole small crafts: pictures, what is mistaken for what, plans, dooms, flights."""

import unittest

from moonfall.alike import are_alike, picture_for
from moonfall.dooms import doom_for, shows_doom
from moonfall.flights import Flight
from moonfall.landers import Lander
from moonfall.plans import deed_by, plan_for, shows_plan
from moonfall.reading import reading
from plain import NEVER, all_pictures, are_alike_plain, fits_plain, points_enough
from plaincraft import Trial, cases
from test_values import GOALS


class Whole(unittest.TestCase):
    def test_every_picture(self):
        seen = 0
        for _, craft, belief, _ in cases(200, 1110000, most_points=2):
            for at, sky in enumerate(craft.skies):
                looks = [number for number, deed in enumerate(craft.deeds) if deed.kind == "look" and deed.aim == at]
                for picture in all_pictures(sky, 2):
                    right = tuple(standing for standing in sky.standings() if fits_plain(sky, picture, standing))
                    self.assertEqual(reading(sky, picture), right)
                    held = tuple(standing for standing in belief if standing in right)
                    if looks and held:
                        lander = Lander(craft, belief, 60, NEVER)
                        lander.do(looks[0])
                        lander.see(picture)
                        self.assertEqual(lander.belief, held)
                        seen += 1
        self.assertGreater(seen, 500)

    def test_what_is_mistaken(self):
        told = {True: 0, False: 0}
        for dice, craft, _, _ in cases(900, 1120000):
            for sky in craft.skies:
                one, other = dice.choice(sky.standings()), dice.choice(sky.standings())
                pictures = all_pictures(sky, points_enough(sky, (one, other)))
                right = any(fits_plain(sky, each, one) and fits_plain(sky, each, other) for each in pictures)
                self.assertIs(are_alike(sky, one, other), right)
                self.assertIs(are_alike_plain(sky, one, other), right)
                picture = picture_for(sky, one, other)
                self.assertIs(picture is not None, right)
                if right:
                    sky.camera.check_picture(picture)
                    self.assertTrue(fits_plain(sky, picture, one) and fits_plain(sky, picture, other))
                told[right] += 1
        self.assertGreater(min(told.values()), 30)

    def follow(self, craft, plan, belief, fuel, flight, told):
        """Whoever follows a plan, whatever is seen and however it slips: all that can come from here on."""
        number = deed_by(plan, belief, fuel)
        deed = craft.deeds[number]
        for end in flight.ends(number):
            after = Flight(craft, flight.standing, fuel)
            after.do(number, end)
            if after.stand != "flying":
                told[after.stand] = told.get(after.stand, 0) + 1
                continue
            lander = Lander(craft, belief, fuel, NEVER)
            lander.do(number)
            beliefs = {lander.belief}
            if deed.kind == "look":
                sky = craft.skies[deed.aim]
                beliefs = {tuple(standing for standing in belief if fits_plain(sky, picture, standing))
                           for picture in all_pictures(sky, points_enough(sky, belief)) if after.can_show(number, picture)}
            for held in beliefs:
                self.assertIn(end, held)
                self.follow(craft, plan, held, after.fuel, after, told)

    def test_plans_and_dooms(self):
        told = {goal: {} for goal in GOALS}
        dooms = 0
        for _, craft, belief, fuel in cases(300, 1130000, most_points=3):
            for goal in GOALS:
                plan = plan_for(craft, goal, belief, fuel, NEVER)
                doom = doom_for(craft, goal, belief, fuel, NEVER)
                # Anybody could who sees only what it sees: by going through all deeds and all pictures.
                self.assertIs(plan is not None, Trial(craft, goal).is_sure(belief, fuel))
                self.assertIs(doom is None, plan is not None)
                if plan is None:
                    self.assertTrue(shows_doom(craft, goal, belief, fuel, doom))
                    dooms += 1
                    continue
                self.assertTrue(shows_plan(craft, goal, belief, fuel, plan, NEVER))
                for standing in belief:
                    self.follow(craft, plan, belief, fuel, Flight(craft, standing, fuel), told[goal])
        self.assertEqual(set(told["land"]), {"landed"})
        self.assertEqual(set(told["keep"]), {"landed", "away"})
        self.assertGreater(min(dooms, told["land"]["landed"], told["keep"]["away"]), 50)


if __name__ == "__main__":
    unittest.main()
