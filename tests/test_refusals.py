"""[19]: refusals."""

import unittest
from random import Random

from moonfall.answers import common_picture
from moonfall.errors import BadStanding
from moonfall.grounds import Camera, Ground, Sky
from moonfall.moreerrors import TooMany
from moonfall.refusals import refusal, shows_refusal
from plain import (NEVER, all_pictures, can_be_of, changed_parts, fits_plain, frame_points, places_of, points_enough,
                   random_sky, skies, sure_of)


def goods_of(sky, lot):
    """What each point of the frame is good for, by looking at all of them; unlike ones."""
    places = [places_of(sky, standing) for standing in lot]
    found = set()
    for point in frame_points(sky):
        found.add(tuple((at, number) for at, here in enumerate(places) for number, place in enumerate(here)
                        if can_be_of(sky, point, place)))
    return found


def is_row_of_unlike(thing, many):
    if type(thing) is not tuple or not all(type(k) is int and 0 <= k < many for k in thing):
        return False
    return len(set(thing)) == len(thing)


def shows_plain(sky, lot, paper, goods=None, spots=()):
    """[19] by its words; the goods of the frame's points are looked up among all of them."""
    goods = goods_of(sky, lot) if goods is None else goods
    if type(paper) is not tuple or len(paper) not in (3, 4) or paper[0] != ("false", "lost")[len(paper) - 3]:
        return False
    word, at, numbers = paper[:3]
    if type(at) is not int or not 0 <= at < len(lot):
        return False
    if word == "false":
        if not is_row_of_unlike(numbers, len(spots)):
            return False
        craters = {number for k in numbers for place, number in spots[k] if place == at}
        return len(numbers) > sky.camera.false + len(craters)
    if not is_row_of_unlike(numbers, len(sky.ground.craters)) or not set(numbers) <= set(sure_of(sky, lot[at])):
        return False
    good = [spot for spot in spots if any((at, number) in spot for number in numbers)]
    if len(numbers) <= sky.camera.lost + len(good) or type(paper[3]) is not tuple:
        return False
    if not all(type(branch) is tuple and len(branch) == 2 for branch in paper[3]):
        return False
    told = [spot for spot, _ in paper[3]]
    asked = {spot for spot in goods if any((at, number) in spot for number in numbers)}
    if len(told) != len(asked) or any(repr(spot) not in map(repr, asked) for spot in told) or set(told) != asked:
        return False
    return all(shows_plain(sky, lot, part, goods, (*spots, spot)) for spot, part in paper[3])


class Refusals(unittest.TestCase):
    def test_against_all_pictures(self):
        told = {True: 0, False: 0}
        for frame, sizes, start in (((2, 2), 1, 0), ((3, 1), 2, 1000), ((4, 1), 1, 2000)):
            for dice, sky in skies(250, start, frame, sizes, (0, 0, 1)):
                lot = [dice.choice(sky.standings()) for _ in range(dice.randint(2, 5))]
                most = points_enough(sky, lot)
                if most > 5:
                    continue
                right = any(all(fits_plain(sky, picture, standing) for standing in lot)
                            for picture in all_pictures(sky, most))
                paper = refusal(sky, lot, NEVER)
                self.assertEqual(paper is None, right)
                self.assertEqual(refusal(sky, tuple(lot), NEVER), paper)
                told[right] += 1
                if not right:
                    self.assertTrue(shows_refusal(sky, lot, paper))
                    self.assertTrue(shows_plain(sky, lot, paper))
        self.assertGreater(min(told.values()), 60)

    def test_against_common_pictures(self):
        deep = 0
        for seed in range(900):
            sky = random_sky(seed, most=7, sizes=1, frame=(5, 4), errors=(0, 1, 1), least=3)
            dice = Random(seed)
            lot = [dice.choice(sky.standings()) for _ in range(dice.randint(2, 6))]
            paper = refusal(sky, lot, NEVER)
            self.assertEqual(paper is None, common_picture(sky, lot, NEVER) is not None)
            if paper is not None:
                self.assertTrue(shows_refusal(sky, lot, paper))
                self.assertTrue(shows_plain(sky, lot, paper))
                deep += any(part[0] == "lost" for _, part in paper[3])
        self.assertGreater(deep, 10)

    def test_by_hand(self):
        # Seen at the one standing, the crater is out of the frame at the other one.
        sky = Sky(Ground([(0, 0, 1)]), Camera(2, 1, 0, 0, 0), (0,), (0, 9, 0, 0))
        lot = ((0, 5, 0), (0, 1, 0))
        paper = ("lost", 1, (0,), ((((1, 0),), ("false", 0, (0,))),))
        self.assertEqual(refusal(sky, lot, NEVER), paper)
        self.assertIs(shows_refusal(sky, lot, paper), True)
        self.assertIs(shows_refusal(sky, lot[::-1], paper), False)
        self.assertIs(shows_refusal(sky, lot, ("lost", 0, (0,), paper[3])), False)
        # A false point, or a lost crater, and it may be seen.
        for slack in ((1, 0), (0, 1)):
            let = Sky(sky.ground, Camera(2, 1, 0, *slack), (0,), sky.area)
            self.assertIsNone(refusal(let, lot, NEVER))
            self.assertIs(shows_refusal(let, lot, paper), False)

    def test_a_standing_twice(self):
        sky = Sky(Ground([(0, 0, 1)]), Camera(2, 1, 0, 0, 0), (0,), (0, 9, 0, 0))
        lot = [(0, 1, 0), (0, 5, 0), (0, 1, 0)]
        good = ((0, 0), (2, 0))
        for at in (0, 2):
            paper = ("lost", at, (0,), ((good, ("false", 1, (0,))),))
            self.assertIs(shows_refusal(sky, lot, paper), True)
            for wrong in (((at, 0),), ((2, 0), (0, 0)), [(0, 0), (2, 0)], ((0, 0), (2, 0), (2, 0)), ([0, 0], [2, 0]),
                          ((False, 0), (2, 0)), ((0, 0), (2, False))):
                self.assertIs(shows_refusal(sky, lot, ("lost", at, (0,), ((wrong, ("false", 1, (0,))),))), False)
        self.assertTrue(shows_refusal(sky, lot, refusal(sky, lot, NEVER)))

    def test_each_good_thing_needs_a_branch(self):
        # A crater is seen at one of three places: alone, as the other standing's one, as its neighbour, too.
        sky = Sky(Ground([(0, 0, 1), (2, 0, 1), (40, 0, 1)]), Camera(9, 3, 1, 0, 0), (0,), (-40, 9, 0, 9))
        lot = ((0, 3, 1), (0, -36, 1))
        self.assertEqual((sky.sure_craters(lot[0]), sky.sure_craters(lot[1])), ([0, 1], [2]))
        goods = [((0, 0),), ((0, 0), (0, 1), (1, 2)), ((0, 0), (1, 2))]
        self.assertEqual(sorted(spot for spot in goods_of(sky, lot) if (0, 0) in spot), goods)
        alone, both, one = goods
        second = [both, ((0, 1),), ((0, 1), (1, 2))]
        self.assertEqual(sorted(spot for spot in goods_of(sky, lot) if (0, 1) in spot), second)
        end = ("false", 1, (0,))
        more = ("lost", 0, (1,), tuple((spot, ("false", 1, (0, 1))) for spot in second))
        # Behind the spot that both can be of another one is lacking for one of the two.
        most = ("lost", 0, (0, 1), tuple((spot, ("false", 1, (0, 1))) for spot in sorted(set(goods + second))))
        branches = [(alone, end), (both, most), (one, more)]
        self.assertIs(shows_refusal(sky, lot, ("lost", 0, (0,), tuple(branches))), True)
        self.assertIs(shows_refusal(sky, lot, ("lost", 0, (0,), tuple(branches[::-1]))), True)
        for at in range(3):
            less = tuple(branches[:at] + branches[at + 1:])
            self.assertIs(shows_refusal(sky, lot, ("lost", 0, (0,), less)), False)
            self.assertIs(shows_refusal(sky, lot, ("lost", 0, (0,), (*branches, branches[at]))), False)
            self.assertIs(shows_refusal(sky, lot, ("lost", 0, (0,), (*less, (second[1], end)))), False)
        paper = refusal(sky, lot, NEVER)
        self.assertTrue(shows_refusal(sky, lot, paper) and shows_plain(sky, lot, paper))

    def test_every_picture_fits(self):
        sky = Sky(Ground([(0, 0, 1)]), Camera(2, 1, 0, 0, 0), (0,), (0, 9, 0, 0))
        for lot in ((), [], ((0, 0, 0),), [(0, 5, 0)], [(0, 1, 0), (0, 1, 0)]):
            self.assertIsNone(refusal(sky, lot, NEVER))
        for thing in (("false", 0, ()), ("lost", 0, (), ()), (), None):
            self.assertIs(shows_refusal(sky, (), thing), False)

    def test_order_doesnt_matter(self):
        for seed in range(150):
            sky = random_sky(seed, most=6, sizes=1, frame=(4, 3), least=2)
            dice = Random(seed)
            lot = dice.sample(sky.standings(), min(4, len(sky.standings())))
            papers = [refusal(sky, row, NEVER) for row in (sorted(lot), lot, lot + lot[:1])]
            self.assertEqual(len({paper is None for paper in papers}), 1)
            for row, paper in zip((sorted(lot), lot, lot + lot[:1]), papers):
                self.assertTrue(paper is None or shows_plain(sky, row, paper) and shows_refusal(sky, row, paper))


class Papers(unittest.TestCase):
    def refused(self, many, start=0):
        for seed in range(start, start + many):
            sky = random_sky(seed, most=6, sizes=1, frame=(4, 3), errors=(0, 1), least=3)
            dice = Random(seed)
            lot = tuple(dice.choice(sky.standings()) for _ in range(dice.randint(2, 4)))
            paper = refusal(sky, lot, NEVER)
            if paper is not None:
                yield sky, lot, paper

    def test_changed_parts(self):
        told = {True: 0, False: 0}
        for sky, lot, paper in self.refused(700):
            if len(repr(paper)) > 3000:
                continue
            goods = goods_of(sky, lot)
            for changed in changed_parts(paper):
                right = shows_plain(sky, lot, changed, goods)
                self.assertIs(shows_refusal(sky, lot, changed), right, changed)
                told[right] += 1
        self.assertGreater(told[False], 2000)
        self.assertGreater(told[True], 10)

    def test_papers_of_other_lots(self):
        rows = list(self.refused(300, 5000))
        for (sky, lot, _), (_, _, paper) in zip(rows, rows[1:] + rows[:1]):
            self.assertIs(shows_refusal(sky, lot, paper), shows_plain(sky, lot, paper))

    def test_never_of_what_is_fitted(self):
        """Papers that are right for a narrower camera are never let where some picture fits all."""
        checked = 0
        for sky, lot, paper in self.refused(600, 9000):
            camera = sky.camera
            for false, lost in ((camera.false + 1, camera.lost), (camera.false, camera.lost + 1)):
                wider = Camera(camera.width, camera.height, camera.error, false, lost)
                let = Sky(sky.ground, wider, sky.turns, sky.area)
                if common_picture(let, lot, NEVER) is not None:
                    checked += 1
                    self.assertIs(shows_refusal(let, lot, paper), False)
        self.assertGreater(checked, 30)

    def test_anything(self):
        sky = Sky(Ground([(0, 0, 1)]), Camera(2, 1, 0, 0, 0), (0,), (0, 9, 0, 0))
        lot = ((0, 5, 0), (0, 1, 0))
        good = ((1, 0),)
        end = ("false", 0, (0,))
        self.assertTrue(shows_refusal(sky, lot, ("lost", 1, (0,), ((good, end),))))
        for thing in (None, 0, True, "", "false", "lost", (), [], {}, ("false",), ("lost",), ("false", 0),
                      ("lost", 0, (0,)), ("false", 0, ()), ("false", 0, (0,)), ("false", 0, (0,), ()),
                      ("other", 1, (0,), ((good, end),)),
                      (None, 1, (0,), ((good, end),)), (["lost"], 1, (0,), ((good, end),)),
                      ["lost", 1, (0,), ((good, end),)], ("lost", True, (0,), ((good, end),)),
                      ("lost", 1, [0], ((good, end),)), ("lost", 1, (False,), ((good, end),)),
                      ("lost", 1, (0, 0), ((good, end),)), ("lost", 1, (1,), ((good, end),)),
                      ("lost", 1, (-1,), ((good, end),)), ("lost", 1, (0,), [(good, end)]), ("lost", 1, (0,), ()),
                      ("lost", 1, (0,), ([good, end],)), ("lost", 1, (0,), ((good, end), (good, end))),
                      ("lost", 1, (0,), ((good, end), ((), end))), ("lost", 1, (0,), ((good, end), None)),
                      ("lost", 1, (0,), ((good, end, end),)), ("lost", 1, (0,), ((list(good), end),)),
                      ("lost", 1, (0,), ((good, None),)), ("lost", 1, (0,), (({}, end),)),
                      ("lost", 2, (0,), ((good, end),)), ("lost", -1, (0,), ((good, end),)),
                      ("lost", 1, (0,), ((good, ("false", 0, (False,))),)),
                      ("lost", 1, (0,), ((good, ("false", 0, (1,))),)),
                      ("lost", 1, (0,), ((good, ("false", 1, (0,))),)), ("lost", 1, (0,), ((good, ("false", 0, ())),)),
                      ("lost", 1, (0,), ((good, ("false", False, (0,))),)), ("lost", 1, (), ()), 1.5, lot, sky):
            self.assertIs(shows_refusal(sky, lot, thing), False, thing)

    def test_deep_papers(self):
        # As many spots for the one standing as there are craters in one place; at the other one all of them are false.
        many = 100
        sky = Sky(Ground([(0, 0, 1)] * many), Camera(2, 1, 0, many - 1, 0), (0,), (0, 9, 0, 0))
        lot = ((0, 1, 0), (0, 5, 0))
        paper = refusal(sky, lot, NEVER)
        self.assertTrue(shows_refusal(sky, lot, paper))
        deep = ("false", 0, (0,))
        for _ in range(5000):
            deep = ("lost", 0, (0,), ((((0, 0),), deep),))
        self.assertIs(shows_refusal(sky, lot, deep), False)


class Errors(unittest.TestCase):
    def setUp(self):
        self.sky = Sky(Ground([(0, 0, 1)]), Camera(2, 1, 0, 0, 0), (0,), (0, 9, 0, 0))

    def test_bad_standings(self):
        for wrong in ((0, 10, 0), (1, 0, 0), [0, 0, 0], None, (0, True, 0)):
            for lot in ([wrong], [(0, 0, 0), wrong, None], (wrong, (0, 0, 0))):
                for call in (lambda: refusal(self.sky, lot, NEVER), lambda: refusal(self.sky, lot, 0),
                             lambda: shows_refusal(self.sky, lot, None)):
                    with self.assertRaises(BadStanding) as told:
                        call()
                    self.assertIs(told.exception.standing, wrong)

    def test_too_many(self):
        for lot in ((), ((0, 0, 0),), ((0, 5, 0), (0, 1, 0))):
            with self.assertRaises(TooMany) as told:
                refusal(self.sky, lot, 0)
            self.assertEqual(told.exception.most, 0)
        for most in range(1, 30):
            try:
                paper = refusal(self.sky, ((0, 5, 0), (0, 1, 0)), most)
            except TooMany as e:
                self.assertEqual(e.most, most)
            else:
                self.assertEqual(paper, refusal(self.sky, ((0, 5, 0), (0, 1, 0)), NEVER))


if __name__ == "__main__":
    unittest.main()
