"""[17]: moves and looks."""

import unittest
from itertools import combinations
from random import Random

from moonfall.errors import BadPicture, BadStanding
from moonfall.glances import confusion_by, fewest_glances, is_move, moved, reading_by, tells_apart
from moonfall.grounds import Camera, Ground, Sky, turned
from moonfall.reading import reading
from plain import are_alike_plain, count, fits_plain, near_plain, random_picture, random_sky


def moved_plain(standing, move):
    """By the words: the place of a crater, turned, then shifted; told by what it does to 0 and (1, 0)."""
    turn, a, b = standing
    places = []
    for x, y in ((0, 0), (1, 0)):
        x, y = turned(x, y, turn)
        x, y = turned(x + a, y + b, move[0])
        places.append((x + move[1], y + move[2]))
    (x, y), (right, down) = places
    turn = [turned(1, 0, turn) for turn in range(4)].index((right - x, down - y))
    return turn, x, y


def random_moves(dice, many, reach=3):
    return [(dice.randint(0, 3), dice.randint(-reach, reach), dice.randint(-reach, reach)) for _ in range(many)]


def skies(many, start=0):
    for seed in range(start, start + many):
        dice = Random(seed)
        yield dice, random_sky(seed, spans=(3, 2), most=5, frame=(5, 4), slacks=(0, 0, 0, 1), turns=2, least=1)


class Moves(unittest.TestCase):
    def test_is_move(self):
        for right in ((0, 0, 0), (3, 10000, -10000), (1, -10000, 10000)):
            self.assertIs(is_move(right), True)
        for wrong in ((4, 0, 0), (-1, 0, 0), (0, 10001, 0), (0, -10001, 0), (0, 0, 10001), (0, 0, -10001),
                      (True, 0, 0), (False, 0, 0), (0, True, 0), (0, 0, False), [0, 0, 0], (0, 0), (0, 0, 0, 0),
                      None, 0, "abc", (0, 0, 0.0), ("0", 0, 0), {}, ([], 0, 0), (0, None, 0)):
            self.assertIs(is_move(wrong), False, wrong)

    def test_moved(self):
        dice = Random(1)
        self.assertEqual(moved((1, 5, 7), (0, 0, 0)), (1, 5, 7))
        self.assertEqual(moved((1, 5, 7), (1, 10, 20)), (2, 3, 25))
        self.assertEqual(moved((3, 5, 7), (2, 10, 20)), (1, 5, 13))
        for _ in range(300):
            standing, move = random_moves(dice, 2, 50)
            crater = (dice.randint(-20, 20), dice.randint(-20, 20), 4)
            sky = Sky(Ground([crater]), Camera(1, 1, 0, 0, 0), (0,), (0, 0, 0, 0))
            x, y, _ = sky.place(crater, standing)
            x, y = turned(x, y, move[0])
            self.assertEqual(sky.place(crater, moved(standing, move)), (x + move[1], y + move[2], 4))
            self.assertEqual(moved(standing, move), moved_plain(standing, move))
            self.assertIn(moved(standing, move)[0], range(4))


class Readings(unittest.TestCase):
    def test_reading_by(self):
        some = 0
        for dice, sky in skies(250):
            for many in range(4):
                looks = []
                start = dice.choice(sky.standings())
                for move in random_moves(dice, many):
                    away = Sky(sky.ground, sky.camera, (moved(start, move)[0],),
                               (moved(start, move)[1],) * 2 + (moved(start, move)[2],) * 2)
                    looks.append((move, random_picture(away, dice)))
                right = tuple([standing for standing in sky.standings()
                               if all(fits_plain(sky, picture, moved_plain(standing, move))
                                      for move, picture in looks)])
                self.assertEqual(reading_by(sky, looks), right)
                self.assertEqual(reading_by(sky, tuple(looks)), right)
                some += many > 1 and 0 < len(right) < len(sky.standings())
        self.assertGreater(some, 60)

    def test_no_looks_and_one(self):
        for dice, sky in skies(50):
            self.assertEqual(reading_by(sky, []), sky.standings())
            picture = random_picture(sky, dice)
            self.assertEqual(reading_by(sky, [((0, 0, 0), picture)]), reading(sky, picture))

    def test_errors(self):
        sky = Sky(Ground([(0, 0, 1)]), Camera(3, 1, 0, 0, 0), (0,), (0, 2, 0, 0))
        good, bad = ((0, 0, 1),), ((0, 0, 1), (0, 1, 1))
        with self.assertRaises(BadStanding) as told:
            reading_by(sky, [((0, 1, 0), bad), ((0, 0, 0), good), ((0, 0, 10001), bad), (None, good)])
        self.assertEqual(told.exception.standing, (0, 0, 10001))
        for move in ([0, 0, 0], None, (True, 0, 0)):
            with self.assertRaises(BadStanding) as told:
                reading_by(sky, [(move, [])])
            self.assertIs(told.exception.standing, move)
        with self.assertRaises(BadPicture) as told:
            reading_by(sky, [((0, 1, 0), good), ((0, 0, 0), bad), ((0, 0, 0), [])])
        self.assertEqual(told.exception.number, 1)
        # Also where nothing is left to be looked at.
        with self.assertRaises(BadPicture) as told:
            reading_by(sky, [((0, 900, 0), good), ((0, 0, 0), [(0, 0, 1)])])
        self.assertEqual(told.exception.number, 0)

    def test_great_sky(self):
        dice = Random(3)
        ground = Ground([(dice.randint(-90, 90), dice.randint(-90, 90), dice.randint(1, 4)) for _ in range(60)])
        sky = Sky(ground, Camera(30, 30, 1, 1, 1), (0, 1, 2, 3), (-50, 49, -50, 49))
        looks = []
        for move in random_moves(dice, 4, 30):
            x, y, z = moved((3, 7, -9), move)
            seen = [place for place in sky.places((x, y, z)) if sky.camera.is_sure(*place[:2])]
            looks.append((move, tuple(seen)))
        self.assertIn((3, 7, -9), reading_by(sky, looks))


def tells_plain(sky, one, other, moves):
    for move in moves:
        if not are_alike_plain(sky, moved_plain(one, move), moved_plain(other, move)):
            return move
    return None


def confusion_plain(sky, moves, reach):
    pairs = [pair for pair in combinations(sky.standings(), 2)
             if not near_plain(*pair, reach) and tells_plain(sky, *pair, moves) is None]
    return min(pairs, default=None)


class Glances(unittest.TestCase):
    def test_tells_apart(self):
        told = {True: 0, False: 0}
        for dice, sky in skies(250, 1000):
            moves = random_moves(dice, dice.randint(0, 3))
            one, other = dice.choice(sky.standings()), dice.choice(sky.standings())
            away = random_moves(dice, 1)[0]
            for first, second in ((one, other), (one, away), (away, other)):
                right = tells_plain(sky, first, second, moves)
                told[right is None] += 1
                self.assertEqual(tells_apart(sky, first, second, moves), right)
        self.assertGreater(min(told.values()), 100)

    def test_confusion_by(self):
        told = {True: 0, False: 0}
        for dice, sky in skies(250, 2000):
            moves = random_moves(dice, dice.randint(0, 4))
            for reach in (0, 1):
                right = confusion_plain(sky, moves, reach)
                told[right is None] += 1
                self.assertEqual(confusion_by(sky, moves, reach), right)
        self.assertGreater(min(told.values()), 80)

    def test_no_moves(self):
        sky = Sky(Ground([(0, 0, 1)]), Camera(3, 1, 0, 0, 0), (0,), (0, 2, 0, 0))
        self.assertEqual(confusion_by(sky, [], 0), ((0, 0, 0), (0, 1, 0)))
        self.assertEqual(confusion_by(sky, [], 1), ((0, 0, 0), (0, 2, 0)))
        self.assertIsNone(confusion_by(sky, [], 2))
        self.assertIsNone(fewest_glances(sky, [], 1))
        self.assertEqual(fewest_glances(sky, [], 2), ())
        self.assertEqual(fewest_glances(sky, [(0, 9, 9)], 2), ())
        self.assertEqual(fewest_glances(sky, [(0, 9, 9), (0, 0, 0), (0, 0, 0)], 1), ((0, 0, 0),))

    def test_fewest_glances(self):
        told = {}
        for dice, sky in skies(200, 3000):
            moves = random_moves(dice, dice.randint(1, 5))
            for reach in (0, 1):
                pairs = [pair for pair in combinations(sky.standings(), 2) if not near_plain(*pair, reach)]
                telling = [{k for k, move in enumerate(moves) if tells_plain(sky, *pair, [move])} for pair in pairs]
                right = None
                for many in range(len(moves) + 1):
                    for lot in combinations(range(len(moves)), many):
                        if right is None and all(each & set(lot) for each in telling):
                            right = tuple([moves[k] for k in lot])
                self.assertEqual(fewest_glances(sky, moves, reach), right)
                self.assertEqual(fewest_glances(sky, tuple(moves), reach), right)
                count(told, right)
        self.assertGreater(min(told[None], told[0], told[1], told[2]), 3)

    def test_bad_moves(self):
        sky = Sky(Ground([(0, 0, 1)]), Camera(3, 1, 0, 0, 0), (0,), (0, 2, 0, 0))
        for asked in (confusion_by, fewest_glances):
            for bad in (None, (4, 0, 0), [0, 0, 0], (0, 10001, 0), (0, True, 0)):
                with self.assertRaises(BadStanding) as told:
                    asked(sky, [(0, 0, 0), bad, None], 5)
                self.assertIs(told.exception.standing, bad)


if __name__ == "__main__":
    unittest.main()
