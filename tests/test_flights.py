"""[43]: flights as they truly go."""

import unittest

from moonfall.crafts import Craft
from moonfall.deeds import away, land, look, step, turn
from moonfall.flights import Flight
from moonfall.grounds import Camera, Ground, Sky
from moonfall.landererrors import BadBelief, BadFlight
from plain import fits_plain, random_picture
from plaincraft import STILL, cases, ends_plain, is_over_plain, is_safe_plain
from test_values import example

SLIPPING = ((0, 0), (1, 0), (-1, 1))


def state_of(flight):
    return flight.standing, flight.fuel, flight.stand


def craft_of():
    """A craft with a deed of each kind."""
    sky = Sky(Ground([(0, 0, 1)]), Camera(3, 1, 0, 0, 0), (0, 1), (-1, 3, -1, 1))
    return Craft((sky,), (0, 0), 0, (step(2, (-1, 0), SLIPPING), turn(1, 1), look(1, 0), land(1, SLIPPING), away(4)))


class Flights(unittest.TestCase):
    def test_ends(self):
        for _, craft, belief, fuel in cases(300, 810000):
            for standing in belief:
                flight = Flight(craft, standing, fuel)
                for number, deed in enumerate(craft.deeds):
                    self.assertEqual(flight.ends(number), sorted(ends_plain(craft, standing, deed)))
        flight = Flight(craft_of(), (0, 1, 0), 9)
        self.assertEqual([flight.ends(number) for number in range(5)],
                         [[(0, 1, 0), (0, 2, 0), (0, 3, -1)], [(1, 0, 1)], [(0, 1, 0)], [(0, 0, 0), (0, 1, 0), (0, 2, -1)],
                          [(0, 1, 0)]])

    def test_whole_flights(self):
        told = {}
        for dice, craft, belief, _ in cases(600, 820000):
            flight = Flight(craft, dice.choice(belief), 20)
            standing, fuel = flight.standing, 20
            while flight.stand == "flying" and fuel > 3 and craft.deeds:
                number = dice.randrange(len(craft.deeds))
                deed = craft.deeds[number]
                if deed.fuel > fuel:
                    continue
                end = dice.choice(sorted(ends_plain(craft, standing, deed)))
                flight.do(number, end)
                standing, fuel = end, fuel - deed.fuel
                if deed.kind == "land":
                    right = "landed" if is_safe_plain(craft, end) else "crashed"
                elif deed.kind == "away":
                    right = "away"
                else:
                    right = "flying" if is_over_plain(craft, end) else "out"
                self.assertEqual(state_of(flight), (standing, fuel, right))
            told[flight.stand] = told.get(flight.stand, 0) + 1
        for word in ("landed", "crashed", "away", "out"):
            self.assertGreater(told[word], 15, told)

    def test_stand(self):
        for number, end, left, stand in ((0, (0, 2, 0), 7, "flying"), (1, (1, 0, 1), 8, "flying"), (2, (0, 1, 0), 8, "flying"),
                                         (3, (0, 0, 0), 8, "crashed"), (3, (0, 1, 0), 8, "crashed"),
                                         (3, (0, 2, -1), 8, "landed"), (4, (0, 1, 0), 5, "away")):
            flight = Flight(craft_of(), (0, 1, 0), 9)
            self.assertEqual(state_of(flight), ((0, 1, 0), 9, "flying"))
            flight.do(number, end)
            self.assertEqual(state_of(flight), (end, left, stand))
        for standing, end, stand in (((0, 3, 0), (0, 4, 0), "out"), ((0, 3, 0), (0, 3, 0), "flying"),
                                     ((0, 2, -1), (0, 4, -2), "out")):
            flight = Flight(craft_of(), standing, 2)
            flight.do(0, end)
            self.assertEqual(state_of(flight), (end, 0, stand))
        # It may land safely where it couldn't be.
        flight = Flight(craft_of(), (0, 3, -1), 1)
        flight.do(3, (0, 4, -2))
        self.assertEqual(state_of(flight), ((0, 4, -2), 0, "landed"))

    def refused(self, flight, number, end, thing):
        before = state_of(flight)
        with self.assertRaises(BadFlight) as told:
            flight.do(number, end)
        self.assertIs(told.exception.thing, thing)
        self.assertEqual(state_of(flight), before)

    def test_deeds_that_are_not_done(self):
        for number in (-1, 5, 6, True, False, None, "0", 1.0, (0,), 10 ** 9):
            self.refused(Flight(craft_of(), (0, 1, 0), 60), number, None, number)
        for number, fuel in ((0, 1), (0, 0), (2, 0), (4, 3)):
            self.refused(Flight(craft_of(), (0, 1, 0), fuel), number, (9, 9, 9), number)
        for number, end in ((3, (0, 0, 0)), (3, (0, 2, -1)), (4, (0, 1, 0))):
            flight = Flight(craft_of(), (0, 1, 0), 60)
            flight.do(number, end)
            for again in range(5):
                self.refused(flight, again, flight.standing, again)
        flight = Flight(craft_of(), (0, 3, 0), 60)
        flight.do(0, (0, 4, 0))
        for again in range(5):
            self.refused(flight, again, (0, 4, 0), again)

    def test_ends_that_are_none(self):
        for number, ends in ((0, ((0, 0, 0), (0, 2, 1), (0, 3, 0), (1, 1, 0))), (1, ((0, 1, 0), (1, 1, 0), (3, 0, -1))),
                             (2, ((0, 2, 0), (1, 0, 1))), (3, ((0, 3, -1), (0, 2, 0))), (4, ((0, 0, 0), (0, 2, 0)))):
            for end in (*ends, None, 0, [0, 1, 0], (0, 1), (False, 1, 0), (0, True, 0), "end", (), {}):
                self.refused(Flight(craft_of(), (0, 1, 0), 9), number, end, end)

    def test_start(self):
        for standing in ((0, 4, 0), (2, 0, 0), (0, 0), None, [0, 1, 0], (0, True, 0), "x"):
            with self.assertRaises(BadBelief) as told:
                Flight(craft_of(), standing, -1)
            self.assertEqual(told.exception.belief, (standing,))
        for fuel in (-1, 61, True, None, "5"):
            with self.assertRaises(BadFlight) as told:
                Flight(craft_of(), (0, 1, 0), fuel)
            self.assertIs(told.exception.thing, fuel)
        for fuel in (0, 60):
            self.assertEqual(Flight(craft_of(), (0, 1, 0), fuel).fuel, fuel)

    def test_can_show(self):
        told = {True: 0, False: 0}
        for dice, craft, belief, fuel in cases(300, 830000):
            flight = Flight(craft, dice.choice(belief), fuel)
            for number, deed in enumerate(craft.deeds):
                for _ in range(5):
                    sky = craft.skies[deed.aim if deed.kind == "look" else 0]
                    picture = random_picture(sky, dice)
                    right = deed.kind == "look" and fits_plain(sky, picture, flight.standing)
                    self.assertIs(flight.can_show(number, picture), right)
                    told[right] += 1
        self.assertGreater(min(told.values()), 300)

    def test_behind_the_end(self):
        craft = craft_of()
        for number, end in ((3, (0, 0, 0)), (3, (0, 2, -1)), (0, (0, 3, -1)), (4, (0, 1, 0))):
            flight = Flight(craft, (0, 1, 0), 9)
            flight.do(number, end)
            for each, deed in enumerate(craft.deeds):
                self.assertEqual(flight.ends(each), sorted(ends_plain(craft, end, deed)))
                for picture in ((), ((0, 0, 1),), ((1, 0, 1),), ((2, 0, 1),)):
                    right = each == 2 and fits_plain(craft.skies[0], picture, end)
                    self.assertIs(flight.can_show(each, picture), right)
        flight = Flight(example(), (0, 2, 0), 9)
        flight.do(2, (0, 3, 0))
        self.assertEqual(flight.stand, "out")
        self.assertEqual([flight.ends(number) for number in range(3)], [[(0, 3, 0)], [(0, 3, 0)], [(0, 4, 0)]])
        self.assertEqual([flight.can_show(1, picture) for picture in ((), ((2, 0, 1),))], [True, False])

    def test_unlike_cameras(self):
        ground = Ground([(0, 0, 1)])
        skies = tuple(Sky(ground, Camera(2, 1, error, false, 0), (0,), (0, 3, 0, 0)) for error, false in ((0, 0), (1, 1)))
        craft = Craft(skies, (0, 0), 0, (look(1, 1), look(1, 0), land(1, STILL)))
        flight = Flight(craft, (0, 1, 0), 5)
        for picture, right in ((((1, 0, 1),), [True, True, False]), (((0, 0, 1),), [True, False, False]),
                               ((), [True, False, False]), (((0, 0, 1), (1, 0, 1), (1, 0, 1)), [False, False, False])):
            self.assertEqual([flight.can_show(number, picture) for number in range(3)], right)


if __name__ == "__main__":
    unittest.main()
