"""[35]: dooms."""

import unittest
from random import Random

from moonfall.beliefs import seen
from moonfall.crafts import Craft
from moonfall.deeds import away, land, look, step, turn
from moonfall.dooms import doom_for, shows_doom
from moonfall.grounds import Camera, Ground, Sky
from moonfall.landererrors import BadBelief, BadFlight
from moonfall.moreerrors import TooMany
from moonfall.plans import plan_for, shows_plan
from moonfall.values import is_sure
from plain import NEVER, fits_plain, random_picture
from plaincraft import (STILL, QuickTrial, Trial, behind_plain, cases, ends_plain, is_over_plain, is_safe_plain,
                        look_cases, random_belief, row_craft)
from test_plans import BOTH, GOALS, example

FUEL, AWAY, NEXT = ("fuel",), ("away",), ("next",)
# Of the craft of chapter 1: to land, to look, to step.
HERE = ("bad", (0, -1, 0), (0, -1, 0))
LOST = ("picture", ())
DOOM = (((BOTH[0],), 3, (HERE, LOST, NEXT)),
        (BOTH, 4, (HERE, LOST, ("bad", (0, 2, 0), (0, 3, 0)))),
        (((0, 0, 0),), 2, (("bad", (0, 0, 0), (0, 0, 0)), ("picture", ((0, 0, 1),)), NEXT)),
        (((0, 1, 0),), 1, (("bad", (0, 1, 0), (0, 1, 0)), ("picture", ((1, 0, 1),)), NEXT)),
        (((0, 2, 0),), 0, (FUEL, FUEL, FUEL)))


def is_picture_plain(camera, thing):
    if type(thing) is not tuple:
        return False
    for point in thing:
        if type(point) is not tuple or len(point) != 3 or not all(type(part) is int for part in point):
            return False
        if not (0 <= point[0] < camera.width and 0 <= point[1] < camera.height and 1 <= point[2] <= 99):
            return False
    return True


def is_doomed_plain(doom, belief, fuel):
    return len(belief) > 0 and any(set(row[0]) <= set(belief) and row[1] >= fuel for row in doom)


def is_answer_plain(craft, goal, doom, row, deed, answer):
    """[35] by its words; None where it is free."""
    belief, fuel, _ = row
    if type(answer) is not tuple or not answer or type(answer[0]) is not str:
        return False
    if answer == FUEL:
        return fuel < deed.fuel
    if answer == AWAY:
        right = deed.kind == "away" and goal == "land"
    elif answer == NEXT and deed.kind in ("step", "turn"):
        right = is_doomed_plain(doom, behind_plain(craft, belief, deed), fuel - deed.fuel)
    elif answer[0] == "bad" and len(answer) == 3:
        whole = is_safe_plain if deed.kind == "land" else is_over_plain
        right = answer[1] in belief and answer[2] in ends_plain(craft, answer[1], deed) and not whole(craft, answer[2])
    elif answer[0] == "picture" and len(answer) == 2 and deed.kind == "look":
        sky = craft.skies[deed.aim]
        right = is_picture_plain(sky.camera, answer[1]) and is_doomed_plain(
            doom, [standing for standing in belief if fits_plain(sky, answer[1], standing)], fuel - deed.fuel)
    else:
        return False
    return None if right and fuel < deed.fuel else right


def shows_plain(craft, goal, belief, fuel, doom):
    """The same of whole dooms, that have the form of rows."""
    if goal not in GOALS or not is_doomed_plain(doom, belief, fuel):
        return False
    told = True
    for row in doom:
        if len(row[2]) != len(craft.deeds):
            return False
        for deed, answer in zip(craft.deeds, row[2]):
            right = is_answer_plain(craft, goal, doom, row, deed, answer)
            if right is False:
                return False
            told = told and right
    return told


class Dooms(unittest.TestCase):
    def check(self, craft, goal, belief, fuel, doom):
        self.assertIs(type(doom), tuple)
        self.assertEqual(list(doom), sorted(doom))
        self.assertIs(shows_doom(craft, goal, belief, fuel, doom), True)
        self.assertTrue(shows_plain(craft, goal, belief, fuel, doom))
        for held, least, _ in doom:
            craft.check_start(held, least)

    def test_against_all_deeds_and_pictures(self):
        kinds = {}
        for _, craft, belief, fuel in cases(900, 110000):
            for goal in GOALS:
                trial = Trial(craft, goal)
                for each in {0, fuel, 8}:
                    doom = doom_for(craft, goal, belief, each, NEVER)
                    plan = plan_for(craft, goal, belief, each, NEVER)
                    self.assertEqual(doom is None, trial.is_sure(belief, each))
                    self.assertEqual(plan is None, doom is not None)
                    if doom is None:
                        self.assertTrue(shows_plan(craft, goal, belief, each, plan, NEVER))
                        continue
                    self.check(craft, goal, belief, each, doom)
                    for row in doom:
                        for deed, answer in zip(craft.deeds, row[2]):
                            kinds[deed.kind, answer[0]] = kinds.get((deed.kind, answer[0]), 0) + 1
        for key in (("step", "next"), ("step", "bad"), ("turn", "next"), ("turn", "bad"), ("look", "picture"),
                    ("land", "bad"), ("away", "away"), ("away", "fuel"), ("land", "fuel"), ("look", "fuel")):
            self.assertGreater(kinds[key], 50)
        self.assertFalse({("look", "bad"), ("away", "bad"), ("land", "away")} & set(kinds))

    def test_many_standings_and_much_fuel(self):
        late = 0
        looking = [(craft, belief) for _, craft, belief in look_cases(200, 120000)]
        for craft, belief in looking + [self.row_case(Random(seed)) for seed in range(120000, 120150)]:
            for goal in GOALS:
                least = QuickTrial(craft, goal).least(belief, 15)
                for fuel in {15, least or 15, (least or 15) - 1}:
                    doom = doom_for(craft, goal, belief, fuel, NEVER)
                    self.assertEqual(doom is None, least is not None and least <= fuel)
                    if doom is not None:
                        self.check(craft, goal, belief, fuel, doom)
                        late += fuel > 8
        self.assertGreater(late, 50)

    def row_case(self, dice):
        craft = row_craft(dice)
        return craft, random_belief(dice, craft, 7)

    def test_all_standings(self):
        ground = Ground([(-4, -5, 1), (0, -1, 1), (3, 5, 1)])
        sky = Sky(ground, Camera(6, 6, 1, 0, 1), (0, 1, 2, 3), (-5, 5, -5, 5))
        steps = [step(1, aim, ((0, 0), (1, 0))) for aim in ((1, 0), (-1, 0), (0, 1), (0, -1))]
        craft = Craft((sky,), (3, 3), 0, (*steps, look(1, 0), land(1, STILL), away(9)))
        for goal, fuel in (("land", 60), ("keep", 8)):
            doom = doom_for(craft, goal, sky.standings(), fuel, NEVER)
            self.assertIs(shows_doom(craft, goal, sky.standings(), fuel, doom), True)

    def test_greater_ones(self):
        # A walk to where it can land, too long for the fuel.
        sky = Sky(Ground([(0, 0, 9)]), Camera(1, 1, 0, 0, 0), (0,), (-12, 12, -12, 12))
        steps = [step(1, aim, STILL) for aim in ((1, 0), (-1, 0), (0, 1), (0, -1))]
        craft = Craft((sky,), (0, 0), 0, (*steps, look(1, 0), land(1, STILL)))
        for belief, least in ((((0, 0, 0),), 11), (((0, 0, 0), (0, 0, 1)), 11), (((0, -1, 0), (0, 1, 0)), 11),
                              (((0, -1, -1), (0, 1, 1)), 12)):
            self.check(craft, "land", belief, least - 1, doom_for(craft, "land", belief, least - 1, NEVER))
            self.assertIsNone(doom_for(craft, "land", belief, least, NEVER))


class Showing(unittest.TestCase):
    def shows(self, doom, belief=BOTH, fuel=4, goal="land", craft=None):
        return shows_doom(example() if craft is None else craft, goal, belief, fuel, doom)

    def changed(self, at, number, answer):
        """The doom of the craft of chapter 1 with one answer changed."""
        belief, fuel, answers = DOOM[at]
        row = (belief, fuel, (*answers[:number], answer, *answers[number + 1:]))
        return (*DOOM[:at], row, *DOOM[at + 1:])

    def test_example(self):
        self.assertIs(self.shows(DOOM), True)
        for fuel in range(5):
            self.assertIs(self.shows(DOOM, fuel=fuel), True)
            self.assertIs(self.shows(DOOM[::-1], fuel=fuel), True)
        self.assertIs(self.shows(DOOM, fuel=5), False)
        self.assertIs(self.shows(DOOM, goal="keep"), True)
        self.assertIs(self.shows(DOOM, belief=BOTH[:1], fuel=3), True)
        self.assertIs(self.shows(DOOM, belief=BOTH[:1]), False)
        self.assertIs(self.shows(DOOM, belief=BOTH[1:], fuel=0), True)
        self.assertIs(self.shows(DOOM, belief=BOTH[1:], fuel=1), False)
        self.assertIs(self.shows(DOOM, belief=(BOTH[0], (0, 0, 0), BOTH[1])), True)

    def test_lost_rows(self):
        for at in range(len(DOOM)):
            self.assertIs(self.shows(DOOM[:at] + DOOM[at + 1:]), False)
        self.assertIs(self.shows(()), False)
        # The last row dooms nothing but what is behind the one ahead of it.
        self.assertIs(self.shows(DOOM[2:], belief=((0, 0, 0),), fuel=2), True)
        self.assertIs(self.shows(DOOM[2:-1], belief=((0, 0, 0),), fuel=2), False)

    def test_changed_fuels(self):
        for at, (belief, fuel, answers) in enumerate(DOOM):
            for more in (-1, 1):
                rows = (*DOOM[:at], (belief, fuel + more, answers), *DOOM[at + 1:])
                self.assertIs(self.shows(rows), False)

    def test_answers_of_each_kind(self):
        sky = Sky(Ground([(0, 0, 1)]), Camera(3, 1, 0, 0, 0), (0, 1), (-1, 2, -1, 1))
        deeds = (step(2, (-1, 0), STILL), turn(2, 1), look(2, 0), land(2, STILL), away(2))
        craft = Craft((sky,), (0, 0), 0, deeds)
        at = (0, 0, 0)
        poor = ((at,), 1, (FUEL,) * 5)
        # To be at (0, 0, 0), or turned, or a step off, with nothing left, is doom; to climb away reaches keep alone.
        rows = (poor, (((0, 1, 0),), 0, (FUEL,) * 5), (((1, 0, 0),), 0, (FUEL,) * 5))
        right = (NEXT, NEXT, ("picture", ((0, 0, 1),)), ("bad", at, at), AWAY)
        for goal in GOALS:
            told = shows_doom(craft, goal, (at,), 2, ((((at,), 2, right)), *rows))
            self.assertIs(told, goal == "land")
        answers = {*right, FUEL, ("picture", ()), ("bad", at, (0, 1, 0)), ("bad", at, (1, 0, 0)), ("away", at),
                   ("next", at), ("fuel", 2), ("picture",), ("picture", ((0, 0, 1),), at), ("bad",), ("bad", at),
                   ("bad", at, at, at), ("hover",), (), ("", at, at), ("look",), ("land",), ("seen", ((0, 0, 1),)),
                   ("bad", ((0, 0, 1),)), ("fuel", ((0, 0, 1),)), ("hover", at, at), ("picture", at, at)}
        for number in range(5):
            for answer in answers:
                changed = (*right[:number], answer, *right[number + 1:])
                told = shows_doom(craft, "land", (at,), 2, ((((at,), 2, changed)), *rows))
                # Both a step and a turn can only be followed by a next; nothing else stands for anything else.
                self.assertIs(told, answer == right[number], (number, answer))

    def test_fuel(self):
        for at in range(4):
            for number in range(3):
                self.assertIs(self.shows(self.changed(at, number, FUEL)), False)
        for at, (belief, fuel, answers) in enumerate(DOOM):
            self.assertIs(self.shows((*DOOM, (belief, 0, (FUEL, FUEL, FUEL)))), True)

    def test_bad(self):
        for answer in (("bad", (0, 2, 0), (0, 2, 0)), ("bad", (0, 0, 0), (0, 0, 0)), ("bad", (0, -1, 0), (0, 0, 0)),
                       ("bad", (0, 0, 0), (0, -1, 0)), ("bad", (0, -1, 0), (0, 2, 0)), ("bad", 0, 0),
                       ("bad", None, (0, -1, 0)), ("bad", [0, -1, 0], (0, -1, 0)), ("bad", (0, -1, 0), [0, -1, 0]),
                       ("bad", (False, -1, 0), (0, -1, 0)), ("bad", (0, -1, 0), (0, -1, False)), ("bad", {}, {})):
            self.assertIs(self.shows(self.changed(1, 0, answer)), False, answer)
        # A step at whose end it can be, and one to where it can't be from a standing that isn't believed.
        for answer in (("bad", (0, -1, 0), (0, 0, 0)), ("bad", (0, 3, 0), (0, 4, 0)), ("bad", (0, 2, 0), (0, 4, 0)),
                       ("bad", (0, 2, 0), (0, 2, 0)), ("bad", (0, 1, 0), (0, 2, 0))):
            self.assertIs(self.shows(self.changed(1, 2, answer)), False, answer)
        # Slips: each end at which it isn't whole will do, no other one.
        sky = Sky(Ground([(0, 0, 1)]), Camera(3, 1, 0, 0, 0), (0,), (-1, 4, 0, 0))
        craft = Craft((sky,), (0, 0), 0, (land(1, ((0, 0), (1, 0), (-1, 0))),))
        for a, right in ((0, False), (1, True), (2, False), (3, False)):
            self.assertIs(shows_doom(craft, "land", ((0, 2, 0),), 5,
                                     ((((0, 2, 0),), 9, (("bad", (0, 2, 0), (0, a, 0)),)),)), right)

    def test_pictures(self):
        # Behind what is seen some standing is left, all of which are doomed.
        for picture, right in (((), True), (((0, 0, 1),), False), (((2, 0, 1),), False), (((2, 0, 1), (2, 0, 1)), False),
                               ([], False), (((3, 0, 1),), False), (((0, 0, 0),), False), ((0,), False), (None, False),
                               (((0, 0, True),), False), (0, False), ("", False), ({}, False)):
            self.assertIs(self.shows(self.changed(1, 1, ("picture", picture))), right, picture)
            self.assertIs(self.shows(self.changed(0, 1, ("picture", picture))), right, picture)

    def test_rows_that_nothing_leads_to(self):
        for wrong in ((((0, 1, 0),), 9, (HERE, LOST, NEXT)), (((0, 2, 0),), 0, (FUEL, FUEL, NEXT + NEXT)),
                      (((0, 2, 0),), 1, (FUEL, FUEL, FUEL)), ((BOTH[0],), 4, (HERE, LOST, NEXT)),
                      (((0, 2, 0),), 1, (("bad", (0, 2, 0), (0, 2, 0)), ("picture", ((2, 0, 1),)), NEXT))):
            self.assertIs(self.shows((*DOOM, wrong)), False)
            self.assertIs(self.shows((wrong, *DOOM)), False)
        for right in ((((0, 1, 0),), 0, (FUEL, FUEL, FUEL)), ((BOTH[0],), 2, (HERE, LOST, NEXT))):
            self.assertIs(self.shows((*DOOM, right)), True)

    def test_rows_that_doom_one_another(self):
        # Whoever hovers where no landing is safe gets nowhere with whatever fuel.
        sky = Sky(Ground([(0, 0, 9)]), Camera(1, 1, 0, 0, 0), (0,), (0, 1, 0, 0))
        craft = Craft((sky,), (0, 0), 0, (step(1, (-1, 0), STILL), step(1, (1, 0), STILL), land(1, STILL), look(1, 0)))
        one, other = (0, 0, 0), (0, 1, 0)
        doom = (((one,), 60, (NEXT, ("bad", one, (0, -1, 0)), ("bad", one, one), ("picture", ((0, 0, 9),)))),
                ((other,), 60, (("bad", other, (0, 2, 0)), NEXT, ("bad", other, other), ("picture", ()))))
        for belief in ((one,), (other,), (one, other)):
            self.assertIs(shows_doom(craft, "land", belief, 60, doom), True)
        for row in doom:
            self.assertIs(shows_doom(craft, "land", row[0], 60, (row,)), False)

    def test_order_of_standings(self):
        self.assertIs(self.shows((DOOM[0], (BOTH[::-1], *DOOM[1][1:]), *DOOM[2:])), True)

    def test_anything(self):
        belief, fuel, answers = DOOM[4]
        row = DOOM[4]
        for wrong in (list(row), row[:2], (*row, 0), ((), 0, answers), (list(belief), 0, answers), (BOTH[1], 0, answers),
                      (None, 0, answers), (((0, 3, 0),), 0, answers), (((False, 2, 0),), 0, answers),
                      (([0, 2, 0],), 0, answers), ((None,), 0, answers), (belief, False, answers), (belief, -1, answers),
                      (belief, 61, answers), (belief, None, answers), (belief, 0, list(answers)), (belief, 0, None),
                      (belief, 0, answers[:2]), (belief, 0, (*answers, FUEL)), (belief, 0, (FUEL, FUEL, ["fuel"])),
                      (belief, 0, (FUEL, FUEL, "fuel")), (belief, 0, (FUEL, FUEL, None)), (belief, 0, (FUEL, FUEL, ())),
                      (belief, 0, (FUEL, FUEL, (0,))), (belief, 0, (FUEL, FUEL, (None, BOTH[0], BOTH[0]))),
                      (belief, 0, (FUEL, FUEL, (FUEL,))), (DOOM[1][0], 4, (list(HERE), *DOOM[1][2][1:])),
                      (DOOM[1][0], 4, (HERE, list(LOST), DOOM[1][2][2])), None, 0, "row", (), {}, "abc"):
            self.assertIs(self.shows((*DOOM, wrong)), False, wrong)
        for thing in (None, 0, True, "", [], list(DOOM), {}, row, (None,), ((),), "abc", 1.5):
            self.assertIs(self.shows(thing), False, thing)

    def test_goals(self):
        for goal in ("hover", None, "", 0, ["land"], {}, ("land",)):
            self.assertIs(self.shows(DOOM, goal=goal), False)

    def test_without_deeds(self):
        craft = Craft(example().skies, (0, 0), 0, ())
        for goal in GOALS:
            for fuel in (0, 60):
                doom = doom_for(craft, goal, BOTH, fuel, NEVER)
                self.assertIs(shows_doom(craft, goal, BOTH, fuel, doom), True)
                self.assertIs(shows_doom(craft, goal, BOTH, fuel, ((BOTH, fuel, ()),)), True)
                self.assertIs(shows_doom(craft, goal, BOTH, fuel, ((BOTH[1:], fuel, ()),)), True)
                self.assertIs(shows_doom(craft, goal, BOTH[:1], fuel, ((BOTH, fuel, ()),)), False)
                self.assertIs(shows_doom(craft, goal, BOTH, fuel, ()), False)

    def test_changed_dooms(self):
        told = {True: 0, False: 0}
        for dice, craft, belief, fuel in cases(700, 130000):
            for goal in GOALS:
                doom = doom_for(craft, goal, belief, fuel, NEVER)
                if doom is None:
                    continue
                for _ in range(8):
                    at = dice.randrange(len(doom))
                    rows = doom[:at] + self.other_row(dice, craft, doom[at]) + doom[at + 1:]
                    for asked, each in ((belief, goal), (random_belief(dice, craft), goal), (belief, dice.choice(GOALS))):
                        less = max(0, fuel + dice.choice((-1, 0, 0, 1)))
                        right = shows_plain(craft, each, asked, less, rows)
                        if right is not None:
                            self.assertIs(shows_doom(craft, each, asked, less, rows), right, rows)
                            told[right] += 1
                        if right:
                            self.assertFalse(Trial(craft, each).is_sure(asked, less))
        self.assertGreater(min(told.values()), 500)

    def other_row(self, dice, craft, row):
        """No row at all, or one with something else in it."""
        belief, fuel, answers = row
        which = dice.randrange(5)
        if which == 0 or not answers:
            return ()
        if which == 1:
            return ((random_belief(dice, craft), fuel, answers),)
        if which == 2:
            return ((belief, max(0, fuel + dice.choice((-1, 1))), answers),)
        if which == 3:
            return ((belief, fuel, dice.choice((answers[:-1], (*answers, answers[0])))),)
        number = dice.randrange(len(answers))
        deed = craft.deeds[number]
        standing = dice.choice(belief)
        others = [FUEL, NEXT, AWAY, ("bad", standing, dice.choice(sorted(ends_plain(craft, standing, deed)))),
                  dice.choice(answers)]
        if deed.kind == "look":
            others += [("picture", random_picture(craft.skies[deed.aim], dice))] * 4
        return ((belief, fuel, (*answers[:number], dice.choice(others), *answers[number + 1:])),)

    def test_what_is_seen_may_be_more(self):
        # A picture may fit more of the belief than the doomed row has.
        craft = example()
        self.assertEqual(seen(craft, BOTH, craft.deeds[1], ()), BOTH[:1])
        wide = (BOTH[0], (0, 0, 0), BOTH[1])
        doom = (*DOOM, (wide, 4, (HERE, LOST, ("bad", (0, 2, 0), (0, 3, 0)))))
        self.assertIs(self.shows(doom, belief=wide), True)


class Errors(unittest.TestCase):
    def test_which_comes_first(self):
        craft = example()
        calls = (lambda goal, belief, fuel: doom_for(craft, goal, belief, fuel, 0),
                 lambda goal, belief, fuel: shows_doom(craft, goal, belief, fuel, None))
        for call in calls:
            for belief in ((), [(0, 0, 0)], BOTH[::-1], ((0, 9, 0),), None):
                with self.assertRaises(BadBelief) as told:
                    call("hover", belief, -1)
                self.assertIs(told.exception.belief, belief)
            for fuel in (-1, 61, True, None):
                with self.assertRaises(BadFlight) as told:
                    call("hover", BOTH, fuel)
                self.assertIs(told.exception.thing, fuel)
        for goal in ("hover", None, ["land"]):
            with self.assertRaises(BadFlight) as told:
                calls[0](goal, BOTH, 5)
            self.assertIs(told.exception.thing, goal)
            self.assertIs(calls[1](goal, BOTH, 5), False)

    def test_too_many(self):
        craft = example()
        for fuel in (0, 4, 5):
            with self.assertRaises(TooMany) as told:
                doom_for(craft, "land", BOTH, fuel, 0)
            self.assertEqual(told.exception.most, 0)
        for dice, small, belief, fuel in cases(60, 140000):
            for most in (1, 3, 10, 100):
                try:
                    doom = doom_for(small, "land", belief, fuel, most)
                except TooMany as e:
                    self.assertEqual(e.most, most)
                else:
                    self.assertEqual(doom is None, is_sure(small, "land", belief, fuel, NEVER))


if __name__ == "__main__":
    unittest.main()
