"""[20]: covers, and the lots that they leave free."""

import unittest
from itertools import combinations
from random import Random

from moonfall.answers import answers, common_picture
from moonfall.covers import cover, free_lots, shows_cover
from moonfall.errors import BadStanding
from moonfall.grounds import Camera, Ground, Sky
from moonfall.moreerrors import TooMany
from moonfall.refusals import refusal, shows_refusal
from plain import NEVER, all_pictures, fits_plain, lots_plain, points_enough, random_sky, skies, turning_skies


def least_plain(sky, belief):
    """All lots that no picture fits, without any lesser one, by trying all lots."""
    least = []
    standings = sorted(set(belief))
    for many in range(1, len(standings) + 1):
        for lot in combinations(standings, many):
            if not any(set(less) <= set(lot) for less in least) and common_picture(sky, lot, NEVER) is None:
                least.append(lot)
    return least


def free_plain(belief, lots):
    standings = sorted(set(belief))
    free = []
    for many in range(len(standings), 0, -1):
        for lot in combinations(standings, many):
            if not any(set(barred) <= set(lot) for barred in lots) and not any(set(lot) <= set(one) for one in free):
                free.append(lot)
    return sorted(free)


class Covers(unittest.TestCase):
    def check(self, sky, belief, told):
        self.assertIs(type(told), tuple)
        for pair in told:
            self.assertEqual((type(pair), len(pair), type(pair[0])), (tuple, 2, tuple))
            self.assertTrue(shows_refusal(sky, *pair))
        self.assertIs(shows_cover(sky, belief, told), True)
        return [lot for lot, _ in told]

    def test_against_all_lots(self):
        three = 0
        for dice, sky in skies(250, 7000, (6, 5), 1, (0, 0, 1), (0, 1), 10):
            belief = dice.sample(sky.standings(), min(6, len(sky.standings())))
            told = cover(sky, belief, NEVER)
            lots = self.check(sky, belief, told)
            self.assertEqual(lots, least_plain(sky, belief))
            self.assertEqual(cover(sky, tuple(sorted(belief + belief[:2])), NEVER), told)
            free = free_lots(belief, told, NEVER)
            self.assertEqual(free, free_plain(belief, lots))
            self.assertEqual(free, [lot for lot, _ in answers(sky, belief, NEVER)])
            three += any(len(lot) > 2 for lot in lots)
        self.assertGreater(three, 3)

    def test_against_all_pictures(self):
        several = 0
        for frame, sizes, start in (((2, 2), 1, 0), ((3, 1), 2, 1000), ((4, 1), 1, 2000)):
            for dice, sky in skies(180, start, frame, sizes, (0, 0, 1, 1)):
                belief = [dice.choice(sky.standings()) for _ in range(dice.randint(2, 6))]
                most = points_enough(sky, belief)
                if most > 5:
                    continue
                told = cover(sky, belief, NEVER)
                self.check(sky, belief, told)
                free = free_lots(belief, told, NEVER)
                self.assertEqual(free, lots_plain(sky, belief, most))
                several += len(free) > 1
        self.assertGreater(several, 30)

    def test_lots_of_three(self):
        found = 0
        for dice, sky in skies(400, 3000, (3, 1), 1, (0, 1, 1)):
            belief = dice.sample(sky.standings(), min(5, len(sky.standings())))
            lots = self.check(sky, belief, cover(sky, belief, NEVER))
            self.assertEqual(lots, least_plain(sky, belief))
            self.assertEqual([len(lot) for lot in lots], sorted(len(lot) for lot in lots))
            found += any(len(lot) > 2 for lot in lots)
        self.assertGreater(found, 5)

    def test_where_the_same_is_seen(self):
        several = 0
        for dice, sky in turning_skies(50, 500):
            belief = dice.sample(sky.standings(), 7)
            told = cover(sky, belief, NEVER)
            lots = self.check(sky, belief, told)
            fitted = [{s for s in belief if fits_plain(sky, picture, s)} for picture in all_pictures(sky, 4)]
            least = []
            for many in range(1, 8):
                for lot in combinations(sorted(belief), many):
                    if not any(set(less) <= set(lot) for less in least):
                        if not any(set(lot) <= each for each in fitted):
                            least.append(lot)
            self.assertEqual(lots, least)
            self.assertEqual(free_lots(belief, told, NEVER), lots_plain(sky, belief, 4))
            several += len(lots) > 2
        self.assertGreater(several, 25)

    def test_fitted_whole(self):
        sky = Sky(Ground([(0, 0, 1)]), Camera(2, 1, 0, 0, 0), (0,), (0, 9, 0, 0))
        for belief in ((), [], ((0, 5, 0),), [(0, 7, 0), (0, 5, 0), (0, 7, 0)]):
            self.assertEqual(cover(sky, belief, NEVER), ())
            self.assertIs(shows_cover(sky, belief, ()), True)
            whole = [tuple(sorted(set(belief)))] if belief else []
            self.assertEqual(free_lots(belief, (), NEVER), whole)

    def test_all_unlike(self):
        ground = Ground([(x, y, 1 + (3 * x + 7 * y) % 11) for x in range(10) for y in range(10)])
        sky = Sky(ground, Camera(4, 4, 0, 1, 1), (0,), (-6, 0, -6, 0))
        told = cover(sky, sky.standings(), NEVER)
        lots = self.check(sky, sky.standings(), told)
        fitted = [lot for lot, _ in answers(sky, sky.standings(), NEVER)]
        self.assertEqual(free_lots(sky.standings(), told, NEVER), fitted)
        self.assertEqual(lots, sorted(lots, key=lambda lot: (len(lot), lot)))


class Anybodys(unittest.TestCase):
    def setUp(self):
        self.sky = Sky(Ground([(0, 0, 1)]), Camera(2, 1, 0, 0, 0), (0,), (-1, 9, 0, 0))
        self.belief = ((0, -1, 0), (0, 0, 0), (0, 1, 0), (0, 5, 0))
        self.cover = cover(self.sky, self.belief, NEVER)

    def test_lots(self):
        lots = [(self.belief[k], self.belief[m]) for k, m in ((0, 1), (0, 2), (1, 2), (1, 3), (2, 3))]
        self.assertEqual([lot for lot, _ in self.cover], lots)
        self.assertEqual(free_lots(self.belief, self.cover, NEVER),
                         [(self.belief[0], self.belief[3]), (self.belief[1],), (self.belief[2],)])

    def test_parts(self):
        rows = self.cover
        for at in range(len(rows)):
            self.assertIs(shows_cover(self.sky, self.belief, rows[:at] + rows[at + 1:]), True)
            self.assertIs(shows_cover(self.sky, self.belief, rows + rows[at:at + 1]), True)
            self.assertIs(shows_cover(self.sky, list(self.belief[::-1]), rows[at:]), True)
            lot, paper = rows[at]
            other = rows[at - 1][1]
            for wrong in ((lot, other), (lot, None), (lot,), (lot, paper, paper), [lot, paper], (list(lot), paper),
                          (lot[:1], paper), ((), paper), (lot[::-1], paper), ((*lot, (0, 9, 0)), paper), None,
                          (None, paper), (tuple(map(list, lot)), paper)):
                right = type(wrong) is tuple and len(wrong) == 2 and wrong[0] == lot
                right = right and shows_refusal(self.sky, lot, wrong[1])
                if type(wrong) is tuple and len(wrong) == 2 and wrong[0] == lot[::-1]:
                    right = shows_refusal(self.sky, lot[::-1], paper)
                self.assertIs(shows_cover(self.sky, self.belief, (*rows, wrong)), right, wrong)

    def test_any_lots_of_the_belief(self):
        lot = (self.belief[2], self.belief[1], self.belief[2])
        paper = refusal(self.sky, lot, NEVER)
        self.assertIs(shows_cover(self.sky, self.belief, ((lot, paper),)), True)
        self.assertIs(shows_cover(self.sky, self.belief[:2], ((lot, paper),)), False)
        self.assertIs(shows_cover(self.sky, (), ((lot, paper),)), False)
        self.assertIs(shows_cover(self.sky, (), ()), True)

    def test_true_is_no_number(self):
        lot = ((0, 0, 0), (0, 1, 0))
        paper = refusal(self.sky, lot, NEVER)
        self.assertIs(shows_cover(self.sky, self.belief, ((lot, paper),)), True)
        for wrong in (((0, 0, 0), (0, True, 0)), ((False, 0, 0), (0, 1, 0)), ((0, 0, 0), [0, 1, 0]),
                      ((0, 0, 0), (0, 1.0, 0)), ((0, 0, 0), (0, 1)), ((0, 0, 0), 1)):
            self.assertIs(shows_cover(self.sky, self.belief, ((wrong, paper),)), False)

    def test_anything(self):
        for thing in (None, 0, True, "", [], {}, list(self.cover), (None,), ((),), ((), ()), "ab", ((None, None),),
                      self.cover[0], 1.5):
            self.assertIs(shows_cover(self.sky, self.belief, thing), thing == (), thing)


class Free(unittest.TestCase):
    def test_against_all_lots(self):
        for seed in range(400):
            dice = Random(seed)
            belief = [(0, k, 0) for k in range(dice.randint(0, 6))]
            dice.shuffle(belief)
            known = belief + [(1, 0, 0), (2, 0, 0)]
            lots = [tuple(dice.choice(known) for _ in range(dice.randint(1, 4))) for _ in range(dice.randint(0, 5))]
            told = free_lots(belief, tuple((lot, None) for lot in lots), NEVER)
            self.assertIs(type(told), list)
            self.assertEqual(told, free_plain(belief, lots))
            self.assertEqual(free_lots(tuple(belief), [(lot, None) for lot in lots], NEVER), told)

    def test_all_are_barred(self):
        belief = ((0, 0, 0), (0, 1, 0))
        self.assertEqual(free_lots(belief, ((belief[:1], None), (belief[1:], None)), NEVER), [])
        self.assertEqual(free_lots(belief, ((belief[:1], None),), NEVER), [belief[1:]])
        self.assertEqual(free_lots((), (), NEVER), [])

    def test_great_ones(self):
        belief = tuple((0, k, 0) for k in range(300))
        self.assertEqual(free_lots(belief, (), NEVER), [belief])
        pairs = tuple(((one, other), None) for one, other in combinations(belief[:120], 2))
        self.assertEqual(free_lots(belief, pairs, NEVER), [(one, *belief[120:]) for one in belief[:120]])


class Errors(unittest.TestCase):
    def test_bad_standings(self):
        sky = Sky(Ground([(0, 0, 1)]), Camera(2, 1, 0, 0, 0), (0,), (0, 9, 0, 0))
        for wrong in ((0, 10, 0), (1, 0, 0), [0, 0, 0], None, (0, True, 0)):
            for most in (0, NEVER):
                with self.assertRaises(BadStanding) as told:
                    cover(sky, [(0, 0, 0), wrong, None], most)
                self.assertIs(told.exception.standing, wrong)

    def test_too_many(self):
        sky = Sky(Ground([(0, 0, 1)]), Camera(2, 1, 0, 0, 0), (0,), (0, 9, 0, 0))
        for belief in ((), ((0, 0, 0),), ((0, 5, 0), (0, 1, 0))):
            for call in (lambda: cover(sky, belief, 0), lambda: free_lots(belief, (), 0)):
                with self.assertRaises(TooMany) as told:
                    call()
                self.assertEqual(told.exception.most, 0)
        belief = sky.standings()[:3]
        right = cover(sky, belief, NEVER)
        for most in range(1, 60):
            try:
                self.assertEqual(cover(sky, belief, most), right)
                self.assertEqual(free_lots(belief, right, most), [belief[:1], belief[1:2], belief[2:]])
            except TooMany as e:
                self.assertEqual(e.most, most)


if __name__ == "__main__":
    unittest.main()
