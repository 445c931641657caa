"""[21]: two pictures of a ground that nobody knows."""

import unittest
from itertools import combinations_with_replacement, product
from random import Random

from moonfall.errors import BadPicture
from moonfall.grounds import Camera, Ground, Sky
from moonfall.mosaics import apart_by, can_join, ground_for, holds_apart_by, motions_between
from plain import fits_plain, greatest_put, turned_plain

HERE = (0, 0, 0)


def sky_of(ground, camera):
    return Sky(ground, camera, (0,), (0, 0, 0, 0))


def led(point, motion):
    turn, a, b = motion
    x, y = turned_plain(point[0], point[1], turn)
    return x + a, y + b, point[2]


def led_back(point, motion):
    turn, a, b = motion
    return (*turned_plain(point[0] - a, point[1] - b, (4 - turn) % 4), point[2])


def around(camera, point):
    offsets = range(-camera.error, camera.error + 1)
    return [(point[0] + right, point[1] + down, point[2]) for right in offsets for down in offsets]


def joins_plain(camera, one, other, motion):
    """Whether some ground has both, by trying all of as many craters as there are points, near which they are."""
    places = set()
    for point in one:
        places.update(around(camera, point))
    for point in other:
        places.update(around(camera, led_back(point, motion)))
    for many in range(len(one) + len(other) + 1):
        for craters in combinations_with_replacement(sorted(places), many):
            sky = sky_of(Ground(craters), camera)
            if fits_plain(sky, one, HERE) and fits_plain(sky, other, motion):
                return True
    return False


def owing_plain(camera, one, other, motion):
    """[21]'s rule: for the points of each picture that owe a partner the points to which they can be put."""
    told = []
    ways = ((one, other, lambda point: led(point, motion)), (other, one, lambda point: led_back(point, motion)))
    for points, others, lead in ways:
        rows = {}
        for number, point in enumerate(points):
            if all(camera.is_sure(*lead(place)[:2]) for place in around(camera, point)):
                x, y, size = lead(point)
                rows[number] = [k for k, (right, down, kind) in enumerate(others) if kind == size
                                and max(abs(right - x), abs(down - y)) <= 2 * camera.error]
        told.append(rows)
    return told


def holds_plain(camera, one, other, motion, side, numbers):
    rows = owing_plain(camera, one, other, motion)[side]
    if len(set(numbers)) < len(numbers) or not set(numbers) <= set(rows):
        return False
    return len(numbers) > camera.lost + camera.false + len({k for number in numbers for k in rows[number]})


def random_points(dice, camera, many, sizes):
    points = []
    for _ in range(many):
        if points and dice.random() < 0.15:
            points.append(points[-1])
        else:
            points.append((dice.randrange(camera.width), dice.randrange(camera.height), dice.randint(1, sizes)))
    return tuple(points)


def cases(many, start, frame, most, sizes=2, errors=(0, 0, 1), slacks=(0, 0, 1), far=4):
    for seed in range(start, start + many):
        dice = Random(seed)
        camera = Camera(dice.randint(1, frame[0]), dice.randint(1, frame[1]), dice.choice(errors), dice.choice(slacks),
                        dice.choice(slacks))
        motion = (dice.randint(0, 3), dice.randint(-far, far), dice.randint(-far, far))
        one = random_points(dice, camera, dice.randint(0, most), sizes)
        other = random_points(dice, camera, dice.randint(0, most), sizes)
        yield dice, camera, one, other, motion


class Joining(unittest.TestCase):
    def check(self, camera, one, other, motion):
        """All that is told of two pictures, by the rule; whether they can be joined."""
        is_joined = can_join(camera, one, other, motion)
        ground = ground_for(camera, one, other, motion)
        paper = apart_by(camera, one, other, motion)
        self.assertEqual((ground is not None, paper is None), (is_joined, is_joined))
        if is_joined:
            self.assertIsInstance(ground, Ground)
            sky = sky_of(ground, camera)
            self.assertTrue(fits_plain(sky, one, HERE) and fits_plain(sky, other, motion))
        else:
            side, numbers = paper
            self.assertEqual((type(paper), type(numbers), type(side)), (tuple, tuple, int))
            self.assertTrue(holds_plain(camera, one, other, motion, side, numbers))
            self.assertIs(holds_apart_by(camera, one, other, motion, paper), True)
        slack = camera.lost + camera.false
        short = []
        for side, rows in enumerate(owing_plain(camera, one, other, motion)):
            if len(rows) - greatest_put(list(rows.values())) > slack:
                short.append(side)
        self.assertEqual([paper[0]] if paper else [], short[:1])
        return is_joined

    def test_against_all_small_grounds(self):
        told = {True: 0, False: 0}
        for frame, most, start in (((3, 3), 2, 0), ((4, 2), 2, 1000), ((6, 5), 1, 2000), ((5, 4), 2, 3000)):
            for _, camera, one, other, motion in cases(300, start, frame, most, 1, far=3):
                if len(one) + len(other) > 3 - camera.error:
                    continue
                right = joins_plain(camera, one, other, motion)
                self.assertIs(self.check(camera, one, other, motion), right)
                told[right] += 1
        self.assertGreater(min(told.values()), 40)

    def test_against_the_rule(self):
        told = {True: 0, False: 0}
        for _, camera, one, other, motion in cases(3000, 10000, (7, 7), 5, 2, (0, 0, 1), (0, 0, 1)):
            told[self.check(camera, one, other, motion)] += 1
        self.assertGreater(min(told.values()), 300)

    def test_pictures_of_a_ground(self):
        for seed in range(600):
            dice = Random(seed)
            camera = Camera(dice.randint(2, 9), dice.randint(2, 9), dice.choice((0, 1, 2)), dice.randint(0, 1),
                            dice.randint(0, 1))
            ground = Ground([(dice.randint(-4, 12), dice.randint(-4, 12), 1) for _ in range(dice.randint(0, 7))])
            motion = (dice.randint(0, 3), dice.randint(-9, 9), dice.randint(-9, 9))
            pictures = [self.picture(dice, sky_of(ground, camera), standing) for standing in (HERE, motion)]
            self.assertTrue(self.check(camera, *pictures, motion))

    def picture(self, dice, sky, standing):
        camera = sky.camera
        points = []
        free = camera.lost
        for x, y, size in sky.places(standing):
            if camera.is_sure(x, y):
                if free and dice.random() < 0.3:
                    free -= 1
                    continue
            elif dice.random() < 0.5:
                continue
            x += dice.randint(-camera.error, camera.error)
            y += dice.randint(-camera.error, camera.error)
            if 0 <= x < camera.width and 0 <= y < camera.height:
                points.append((x, y, size))
        points += [(dice.randrange(camera.width), dice.randrange(camera.height), 1) for _ in range(camera.false)]
        dice.shuffle(points)
        return tuple(points)

    def test_by_hand(self):
        camera = Camera(5, 5, 0, 0, 0)
        for turn, place in ((0, (1, 2)), (1, (-2, 1)), (2, (-1, -2)), (3, (2, -1))):
            motion = (turn, 2 - place[0], 2 - place[1])
            self.assertIs(can_join(camera, ((1, 2, 1),), ((2, 2, 1),), motion), True)
            self.assertIs(can_join(camera, ((1, 2, 1),), ((2, 2, 2),), motion), False)
            self.assertIs(can_join(camera, ((1, 2, 1),), (), motion), False)
            self.assertEqual(ground_for(camera, ((1, 2, 1),), ((2, 2, 1),), motion), Ground([(1, 2, 1)]))
            self.assertEqual(apart_by(camera, ((1, 2, 1),), (), motion), (0, (0,)))
            self.assertEqual(apart_by(camera, (), ((2, 2, 1),), motion), (1, (0,)))

    def test_twice(self):
        camera = Camera(5, 5, 0, 0, 0)
        two = ((1, 1, 1), (1, 1, 1))
        self.assertIs(can_join(camera, two, two, HERE), True)
        self.assertEqual(ground_for(camera, two, two, HERE), Ground(two))
        self.assertIs(can_join(camera, two, two[:1], HERE), False)
        self.assertEqual(apart_by(camera, two[:1], two, HERE), (1, (0, 1)))
        for slack in ((1, 0), (0, 1)):
            self.assertTrue(self.check(Camera(5, 5, 0, *slack), two, two[:1], HERE))

    def test_nothing_is_seen_by_both(self):
        camera = Camera(5, 5, 0, 0, 0)
        one, other = ((1, 1, 1), (4, 0, 2)), ((2, 2, 3),)
        for motion in ((0, 5, 0), (0, 0, -5), (1, 100000, -100000), (3, -100000, 100000), (2, -50, 0)):
            self.assertTrue(self.check(camera, one, other, motion))
        self.assertFalse(self.check(camera, one, other, HERE))
        self.assertTrue(self.check(camera, (), (), HERE))

    def test_the_edge_of_what_is_owed(self):
        # Twice the error from the edge, and the point is of a crater surely in for the other camera.
        camera = Camera(9, 9, 1, 0, 0)
        for x, owes in ((0, False), (1, False), (2, True), (6, True), (7, False), (8, False)):
            self.assertIs(can_join(camera, ((x, 4, 1),), (), HERE), not owes)
            self.assertIs(can_join(camera, ((4, x, 1),), (), HERE), not owes)
            self.assertIs(can_join(camera, (), ((x, 4, 1),), HERE), not owes)
        for x, is_near in ((2, True), (1, False), (6, True), (7, False)):
            self.assertIs(can_join(camera, ((4, 4, 1),), ((x, 4, 1),), HERE), is_near)

    def test_fifty_points(self):
        dice = Random(3)
        camera = Camera(60, 60, 1, 1, 1)
        ground = Ground([(dice.randint(-10, 80), dice.randint(-10, 80), dice.randint(1, 2)) for _ in range(45)])
        motion = (1, 55, 4)
        pictures = [self.picture(dice, sky_of(ground, camera), standing) for standing in (HERE, motion)]
        self.assertTrue(can_join(camera, *pictures, motion))
        self.assertIsNotNone(ground_for(camera, *pictures, motion))
        told = motions_between(camera, *pictures, (0, 1, 2, 3), (5, 104, -46, 53))
        self.assertIn(motion, told)


class Papers(unittest.TestCase):
    def test_wrong_ones(self):
        camera = Camera(5, 5, 0, 0, 0)
        one, other = ((1, 1, 1), (2, 2, 1), (1, 1, 1)), ((1, 1, 1), (3, 3, 2))
        for paper in ((0, (0, 2)), (0, (2, 0)), (0, (1,)), (0, (0, 1, 2)), (1, (1,)), (0, (1, 2))):
            self.assertIs(holds_apart_by(camera, one, other, HERE, paper), True, paper)
        for paper in ((0, ()), (0, (0,)), (1, (0,)), (0, (0, 0)), (0, (3,)), (0, (-1,)), (1, (0, 2)), (1, (2,)),
                      (2, (1,)), (-1, (1,)), (True, (1,)), (False, (1,)), (0, (True,)), (0, [1]), [0, (1,)],
                      (0, (1,), 0), (0,), (), None, 0, "ab", (None, (1,)), (0, None), (0, (1.0,)), {}, ((0, (1,)),)):
            self.assertIs(holds_apart_by(camera, one, other, HERE, paper), False, paper)

    def test_against_the_rule(self):
        told = {True: 0, False: 0}
        for dice, camera, one, other, motion in cases(3000, 40000, (7, 7), 4, 1, far=3):
            for side, many in ((0, len(one)), (1, len(other))):
                numbers = tuple(dice.sample(range(many), dice.randint(0, many)))
                right = holds_plain(camera, one, other, motion, side, numbers)
                self.assertIs(holds_apart_by(camera, one, other, motion, (side, numbers)), right)
                told[right] += 1
        self.assertGreater(min(told.values()), 100)

    def test_points_that_owe_nothing(self):
        camera = Camera(5, 5, 0, 0, 0)
        self.assertIs(holds_apart_by(camera, ((0, 0, 1), (4, 0, 1)), (), (0, 3, 0), (0, (0,))), True)
        self.assertIs(holds_apart_by(camera, ((0, 0, 1), (4, 0, 1)), (), (0, 3, 0), (0, (0, 1))), False)


class Motions(unittest.TestCase):
    def test_against_each(self):
        for dice, camera, one, other, _ in cases(120, 70000, (6, 6), 4):
            turns = tuple(sorted(dice.sample(range(4), dice.randint(1, 4))))
            a, b = dice.randint(-5, 2), dice.randint(-5, 2)
            area = (a, a + dice.randint(0, 5), b, b + dice.randint(0, 5))
            shifts = product(turns, range(area[0], area[1] + 1), range(area[2], area[3] + 1))
            right = tuple(motion for motion in shifts if can_join(camera, one, other, motion))
            self.assertEqual(motions_between(camera, one, other, turns, area), right)
            self.assertEqual(motions_between(camera, one, other, list(turns), list(area)), right)

    def test_far_ones(self):
        camera = Camera(5, 5, 0, 0, 0)
        one = ((1, 1, 1), (3, 2, 1))
        self.assertEqual(motions_between(camera, one, ((1, 1, 1),), (0,), (99000, 99001, -99000, -99000)),
                         ((0, 99000, -99000), (0, 99001, -99000)))


class Errors(unittest.TestCase):
    def test_bad_pictures(self):
        camera = Camera(3, 2, 0, 0, 0)
        good = ((0, 0, 1), (2, 1, 9))
        bad = ((0, 0, 1), (3, 0, 1))
        calls = (can_join, apart_by, ground_for, lambda *rest: motions_between(*rest[:3], (0,), (0, 0, 0, 0)))
        for call in calls:
            for wrong in ((bad, good), (good, bad), (bad, [])):
                with self.assertRaises(BadPicture) as told:
                    call(camera, *wrong, HERE)
                self.assertEqual(told.exception.number, 1)
            for wrong in (([], bad), (good, list(good)), (None, good)):
                with self.assertRaises(BadPicture) as told:
                    call(camera, *wrong, HERE)
                self.assertEqual(told.exception.number, 0)


if __name__ == "__main__":
    unittest.main()
