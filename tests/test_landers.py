"""[41], [42]: landers in flight."""

import unittest
from random import Random

from moonfall.crafts import Craft
from moonfall.deeds import away, land, look, step, turn
from moonfall.errors import BadPicture
from moonfall.flights import Flight
from moonfall.grounds import Camera, Ground, Sky
from moonfall.landererrors import BadBelief, BadFlight
from moonfall.landers import Lander
from moonfall.values import is_sure
from plain import NEVER, all_pictures, fits_plain, points_enough, random_picture
from plaincraft import (STILL, QuickTrial, Trial, behind_plain, cases, ends_plain, is_kept_plain, is_over_plain,
                        look_cases, random_belief)
from test_values import BOTH, GOALS, example


def state_of(lander):
    return lander.belief, lander.fuel, lander.stand, lander.looking


def runs_plain(craft, standing, log):
    """Where the runs from a standing lead that have just these deeds and pictures, each by itself."""
    if not log:
        yield standing
        return
    (number, picture), rest = log[0], log[1:]
    deed = craft.deeds[number]
    for end in ends_plain(craft, standing, deed):
        if deed.kind == "look" and picture is not None and not fits_plain(craft.skies[deed.aim], picture, end):
            continue
        if is_over_plain(craft, end):
            yield from runs_plain(craft, end, rest)


class Believing(unittest.TestCase):
    def test_against_all_runs(self):
        told = {}
        for dice, craft, belief, _ in cases(500, 710000):
            lander = Lander(craft, belief, 30, NEVER)
            log = []
            for _ in range(6):
                number = dice.randrange(len(craft.deeds))
                deed = craft.deeds[number]
                if deed.kind in ("land", "away"):
                    continue
                self.try_deed(dice, craft, lander, belief, log, number, deed)
                told[len(lander.belief)] = told.get(len(lander.belief), 0) + 1
            self.assertEqual(lander.fuel, 30 - sum(craft.deeds[number].fuel for number, _ in log))
        self.assertGreater(min(told[many] for many in (1, 2, 3)), 100)

    def where(self, craft, belief, log):
        return tuple(sorted({end for standing in belief for end in runs_plain(craft, standing, log)}))

    def try_deed(self, dice, craft, lander, belief, log, number, deed):
        picture = random_picture(craft.skies[deed.aim], dice) if deed.kind == "look" else None
        before = state_of(lander)
        right = self.where(craft, belief, [*log, (number, None)])
        if not right:
            with self.assertRaises(BadFlight):
                lander.do(number)
            self.assertEqual(state_of(lander), before)
            return
        lander.do(number)
        log.append((number, None))
        self.assertEqual(lander.belief, right)
        if deed.kind != "look":
            return
        self.assertEqual(lander.looking, number)
        right = self.where(craft, belief, [*log[:-1], (number, picture)])
        before = state_of(lander)
        if not right:
            with self.assertRaises(BadFlight) as told:
                lander.see(picture)
            self.assertIs(told.exception.thing, picture)
            self.assertEqual(state_of(lander), before)
            # Some picture fits each standing that is believed.
            picture = next(each for each in all_pictures(craft.skies[deed.aim], 4)
                           if fits_plain(craft.skies[deed.aim], each, lander.belief[0]))
            right = self.where(craft, belief, [*log[:-1], (number, picture)])
        lander.see(picture)
        log[-1] = (number, picture)
        self.assertEqual(lander.belief, right)
        self.assertIsNone(lander.looking)

    def test_stand_and_looking(self):
        craft = example(away(2), turn(1, 1))
        lander = Lander(craft, BOTH, 9, NEVER)
        self.assertEqual(state_of(lander), (BOTH, 9, "flying", None))
        lander.do(1)
        self.assertEqual(state_of(lander), (BOTH, 8, "flying", 1))
        lander.see(())
        self.assertEqual(state_of(lander), (BOTH[:1], 8, "flying", None))
        lander.do(2)
        self.assertEqual(state_of(lander), (((0, 0, 0),), 7, "flying", None))
        lander.do(0)
        self.assertEqual(state_of(lander), (((0, 0, 0),), 6, "land", None))
        lander = Lander(craft, BOTH, 2, NEVER)
        lander.do(3)
        self.assertEqual(state_of(lander), (BOTH, 0, "away", None))
        # `looking` is the deed's number, not the camera's.
        two = Craft(craft.skies * 2, (0, 0), 0, (land(1, STILL), look(2, 1), look(3, 0)))
        for number, left in ((1, 7), (2, 6)):
            lander = Lander(two, BOTH, 9, NEVER)
            lander.do(number)
            self.assertEqual(state_of(lander), (BOTH, left, "flying", number))

    def test_ends_that_can_not_be_are_left_out(self):
        craft = example(step(1, (-1, 0), ((0, 0), (-1, 0))), turn(1, 1))
        lander = Lander(craft, ((0, 1, 0), (0, 2, 0)), 9, NEVER)
        lander.do(3)
        self.assertEqual(lander.belief, ((0, 2, 0),))
        for number in (2, 3, 4):
            with self.assertRaises(BadFlight) as told:
                lander.do(number)
            self.assertIs(told.exception.thing, number)
            self.assertEqual(state_of(lander), (((0, 2, 0),), 8, "flying", None))

    def refused(self, lander, *numbers):
        before = state_of(lander)
        for number in numbers:
            with self.assertRaises(BadFlight) as told:
                lander.do(number)
            self.assertIs(told.exception.thing, number)
            self.assertEqual(state_of(lander), before)

    def test_deeds_that_are_not_done(self):
        craft = example(away(4))
        lander = Lander(craft, BOTH, 3, NEVER)
        self.refused(lander, -1, 4, 5, True, False, "0", None, 1.0, (0,), [0], 10 ** 9, 3)
        lander.do(1)
        # While it waits for a picture, whatever the number.
        self.refused(lander, 0, 1, 2, 3, 4, -1)
        lander.see(())
        lander.do(2)
        lander.do(2)
        self.assertEqual(lander.fuel, 0)
        self.refused(lander, 0, 1, 2, 3)
        for number, stand in ((0, "land"), (3, "away")):
            lander = Lander(craft, BOTH, 60, NEVER)
            lander.do(number)
            self.assertEqual(lander.stand, stand)
            self.refused(lander, 0, 1, 2, 3, 4, None)
        self.refused(Lander(Craft(craft.skies, (0, 0), 0, ()), BOTH, 60, NEVER), 0, -1)

    def test_pictures_that_are_not_seen(self):
        lander = Lander(example(), BOTH, 9, NEVER)
        for picture in ((), ((2, 0, 1),), None, 0, ((9, 9, 9),)):
            with self.assertRaises(BadFlight) as told:
                lander.see(picture)
            self.assertIs(told.exception.thing, picture)
        lander.do(1)
        before = state_of(lander)
        for picture, number in ((None, 0), ([], 0), (((2, 0, 1), (3, 0, 1)), 1), (((2, 0, 0),), 0), ("x", 0),
                                (((0, 0, 1), 5), 1), (((True, 0, 1),), 0), (((0, -1, 1),), 0)):
            with self.assertRaises(BadPicture) as told:
                lander.see(picture)
            self.assertEqual(told.exception.number, number)
            self.assertEqual(state_of(lander), before)
        for picture in (((0, 0, 1),), ((2, 0, 2),), ((2, 0, 1), (2, 0, 1))):
            with self.assertRaises(BadFlight) as told:
                lander.see(picture)
            self.assertIs(told.exception.thing, picture)
            self.assertEqual(state_of(lander), before)
        lander.see(((2, 0, 1),))
        with self.assertRaises(BadFlight):
            lander.see(((2, 0, 1),))
        self.assertEqual(state_of(lander), (BOTH[1:], 8, "flying", None))

    def test_start(self):
        for belief in ((), [(0, 0, 0)], BOTH[::-1], ((0, 9, 0),)):
            with self.assertRaises(BadBelief) as told:
                Lander(example(), belief, -1, 0)
            self.assertIs(told.exception.belief, belief)
        for fuel in (-1, 61, True, None):
            with self.assertRaises(BadFlight) as told:
                Lander(example(), BOTH, fuel, 0)
            self.assertIs(told.exception.thing, fuel)


def choices_plain(craft, belief, fuel, lands, keeps):
    """[42] by its words: which numbers the choice may be; None alone if there is none."""
    deeds = list(enumerate(craft.deeds))
    for trial in (lands, None, keeps):
        if trial is not None:
            good = {number for number, deed in deeds if trial.is_good(deed, belief, fuel - deed.fuel)}
            if good:
                return good
            continue
        for number, deed in deeds:
            left = fuel - deed.fuel
            if deed.kind in ("land", "away") or left < 0 or not is_kept_plain(craft, belief, deed):
                continue
            behind = [behind_plain(craft, belief, deed)]
            if deed.kind == "look":
                lots = lands.lots_seen(deed.aim, belief)
                behind = [lot for lot in lots if not any(set(lot) < set(other) for other in lots)]
            if all(keeps.is_sure(lot, left) for lot in behind) and any(lands.is_sure(lot, left) for lot in behind):
                return {number}
    return {None}


class Choosing(unittest.TestCase):
    def check(self, craft, belief, fuel, trials, told):
        lander = Lander(craft, belief, fuel, NEVER)
        right = choices_plain(craft, belief, fuel, *trials)
        number = lander.choice()
        self.assertIn(number, right, (craft.deeds, belief, fuel))
        self.assertEqual(lander.choice(), number)
        self.assertEqual(state_of(lander), (belief, fuel, "flying", None))
        sure = [trial.is_sure(belief, fuel) for trial in trials]
        word = "land" if sure[0] else "none" if number is None else "hope"
        if word == "hope" and len(right) == 1 and sure[1]:
            # Whether it hopes, or only keeps whole.
            deed = craft.deeds[number]
            word = "keep" if deed.kind == "away" else "hope"
        told[word] = told.get(word, 0) + 1

    def test_against_all_deeds_and_pictures(self):
        told = {}
        for _, craft, belief, fuel in cases(700, 720000):
            self.check(craft, belief, fuel, [Trial(craft, goal) for goal in GOALS], told)
        for _, craft, belief in look_cases(150, 720000):
            for fuel in (4, 8, 12):
                self.check(craft, belief, fuel, [QuickTrial(craft, goal) for goal in GOALS], told)
        for word, many in (("land", 200), ("hope", 50), ("keep", 15), ("none", 200)):
            self.assertGreater(told[word], many, told)

    def test_hope(self):
        # With fuel to climb away it looks first: perhaps it sees that it may land.
        sky = Sky(Ground([(0, 0, 1)]), Camera(3, 1, 0, 0, 0), (0,), (-1, 2, 0, 0))
        craft = Craft((sky,), (0, 0), 0, (land(1, STILL), away(3), look(1, 0), step(1, (-1, 0), STILL), look(1, 0)))
        for fuel, right in ((0, None), (1, None), (2, None), (3, 1), (4, 2), (5, 2), (6, 2)):
            self.assertEqual(Lander(craft, BOTH, fuel, NEVER).choice(), right)
        lander = Lander(craft, BOTH, 4, NEVER)
        lander.do(lander.choice())
        self.assertIsNone(lander.choice())
        lander.see(())
        self.assertEqual(lander.choice(), 1)
        lander.do(1)
        self.assertIsNone(lander.choice())
        self.assertEqual(lander.stand, "away")
        lander = Lander(craft, BOTH, 4, NEVER)
        lander.do(2)
        lander.see(((2, 0, 1),))
        self.assertEqual(lander.choice(), 0)
        lander.do(0)
        self.assertIsNone(lander.choice())

    def test_none_behind_the_end_and_while_it_waits(self):
        lander = Lander(example(), BOTH, 6, NEVER)
        self.assertEqual(lander.choice(), 1)
        lander.do(1)
        self.assertIsNone(lander.choice())
        lander.see(((2, 0, 1),))
        self.assertEqual(lander.choice(), 0)
        lander.do(0)
        self.assertIsNone(lander.choice())
        for fuel in range(5):
            self.assertIsNone(Lander(example(), BOTH, fuel, NEVER).choice())
        self.assertIsNone(Lander(Craft(example().skies, (0, 0), 0, ()), BOTH, 60, NEVER).choice())

    def test_where_too_many_comes(self):
        told = {}
        for dice, craft, belief, fuel in cases(250, 730000):
            lands, keeps = [Trial(craft, goal) for goal in GOALS]
            for most in (0, 1, 2, 3, 5, 10, 30, 100):
                number = Lander(craft, belief, fuel, most).choice()
                self.assertEqual(Lander(craft, belief, fuel, most).choice(), number)
                if number is not None:
                    deed = craft.deeds[number]
                    good = [trial.is_good(deed, belief, fuel - deed.fuel) for trial in (lands, keeps)]
                    self.assertTrue(any(good))
                if most == 0:
                    self.assertIsNone(number)
                told[most] = told.get(most, 0) + (number is not None)
        self.assertEqual(sorted(told.values()), [told[most] for most in sorted(told)])
        self.assertGreater(told[100], 80)


class Flights(unittest.TestCase):
    """Whole flights of a lander that does what it chooses."""

    def begin(self, craft, belief, standing, fuel, log):
        lander, flight = Lander(craft, belief, fuel, NEVER), Flight(craft, standing, fuel)
        for number, end, picture in log:
            self.assertEqual(lander.choice(), number)
            lander.do(number)
            flight.do(number, end)
            if picture is not None:
                lander.see(picture)
        return lander, flight

    def pictures(self, craft, deed, lander, standing):
        """A picture for each lot of the belief that one can fit which is seen at a standing."""
        sky = craft.skies[deed.aim]
        found = {}
        for picture in all_pictures(sky, points_enough(sky, lander.belief)):
            if fits_plain(sky, picture, standing):
                found.setdefault(tuple(each for each in lander.belief if fits_plain(sky, picture, each)), picture)
        return found.values()

    def fly(self, craft, belief, standing, fuel, log, sure, told):
        """All that can come from here on."""
        lander, flight = self.begin(craft, belief, standing, fuel, log)
        self.assertEqual(flight.stand == "flying", lander.stand == "flying")
        if flight.stand == "flying":
            self.assertIn(flight.standing, lander.belief)
            sure = ["land" if is_sure(craft, "land", lander.belief, lander.fuel, NEVER) else sure[0], sure[1]]
        number = lander.choice()
        if number is None:
            told[flight.stand] = told.get(flight.stand, 0) + 1
            if sure[1]:
                self.assertIn(flight.stand, ("landed", "away"))
            if sure[0] == "land":
                self.assertEqual(flight.stand, "landed")
            return
        deed = craft.deeds[number]
        for end in flight.ends(number):
            pictures = self.pictures(craft, deed, lander, end) if deed.kind == "look" else [None]
            for picture in pictures:
                self.fly(craft, belief, standing, fuel, [*log, (number, end, picture)], sure, told)

    def test_all_that_can_come(self):
        told = {}
        for _, craft, belief, fuel in cases(350, 740000, most_points=3):
            if craft.deeds:
                keep = is_sure(craft, "keep", belief, fuel, NEVER)
                for standing in belief:
                    self.fly(craft, belief, standing, fuel, [], [None, keep], told)
        self.assertFalse({"crashed", "out"} & set(told))
        self.assertGreater(min(told["landed"], told["away"], told["flying"]), 50)

    def test_by_chance(self):
        told = {}
        for dice, craft, _ in look_cases(300, 750000):
            belief = random_belief(dice, craft, 6)
            fuel = dice.randint(6, 18)
            lander, flight = Lander(craft, belief, fuel, NEVER), Flight(craft, dice.choice(belief), fuel)
            keep, landing = is_sure(craft, "keep", belief, fuel, NEVER), False
            while lander.choice() is not None:
                landing = landing or is_sure(craft, "land", lander.belief, lander.fuel, NEVER)
                number = lander.choice()
                lander.do(number)
                flight.do(number, dice.choice(flight.ends(number)))
                if lander.looking is not None:
                    picture = random_picture(craft.skies[0], dice)
                    while not flight.can_show(number, picture):
                        picture = random_picture(craft.skies[0], dice)
                    lander.see(picture)
                if lander.stand == "flying":
                    self.assertIn(flight.standing, lander.belief)
                self.assertEqual(lander.fuel, flight.fuel)
            told[flight.stand] = told.get(flight.stand, 0) + 1
            self.assertIs(flight.stand in ("landed", "away"), keep)
            if landing:
                self.assertEqual(flight.stand, "landed")
        self.assertFalse({"crashed", "out"} & set(told))
        self.assertGreater(min(told["landed"], told["away"], told["flying"]), 20)

    def test_a_greater_one(self):
        dice = Random(1)
        ground = Ground([(x * 4 + dice.randint(0, 2), y * 4 + dice.randint(0, 2), dice.randint(1, 2))
                         for x in range(-3, 8) for y in range(-3, 6)])
        sky = Sky(ground, Camera(11, 11, 0, 0, 0), (0,), (-12, 7, -7, 12))
        steps = [step(1, aim, STILL) for aim in ((1, 0), (-1, 0), (0, 1), (0, -1))]
        craft = Craft((sky,), (5, 5), 0, (land(1, STILL), look(1, 0), *steps, away(15)))
        belief = sky.standings()[::11]
        for standing in belief[::6]:
            lander, flight = Lander(craft, belief, 20, NEVER), Flight(craft, standing, 20)
            while lander.choice() is not None:
                number = lander.choice()
                lander.do(number)
                flight.do(number, dice.choice(flight.ends(number)))
                if lander.looking is not None:
                    lander.see(tuple(place for place in sky.places(flight.standing)
                                     if 0 <= place[0] < 11 and 0 <= place[1] < 11))
            self.assertEqual(flight.stand, "landed")


if __name__ == "__main__":
    unittest.main()
