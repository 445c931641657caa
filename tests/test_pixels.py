"""[23]: from brightness to points."""

import unittest
from random import Random

from moonfall.errors import BadPicture
from moonfall.fitting import fits
from moonfall.grounds import Camera, Ground, Sky
from moonfall.pixels import blobs, bright_cells, middle, picture_of, size_by

MILLION = 1000000


def blobs_plain(cells):
    """Cells that hang together, by joining what touches as long as anything does."""
    lots = [{cell} for cell in set(cells)]
    while True:
        pair = next(((one, other) for one in lots for other in lots if one is not other
                     and any(max(abs(x - a), abs(y - b)) <= 1 for x, y in one for a, b in other)), None)
        if pair is None:
            return sorted(tuple(sorted(lot)) for lot in lots)
        lots.remove(pair[0])
        lots.remove(pair[1])
        lots.append(pair[0] | pair[1])


def rows_of(*texts):
    return tuple(tuple(int(sign) for sign in text) for text in texts)


class Cells(unittest.TestCase):
    def test_bright_cells(self):
        rows = rows_of("0123", "3210")
        self.assertEqual(bright_cells(rows, 2), [(0, 1), (1, 1), (2, 0), (3, 0)])
        self.assertEqual(bright_cells(rows, 0), sorted((x, y) for x in range(4) for y in range(2)))
        self.assertEqual(bright_cells(rows, -5), bright_cells(rows, 0))
        self.assertEqual(bright_cells(rows, 3), [(0, 1), (3, 0)])
        self.assertEqual(bright_cells(rows, 4), [])
        self.assertIs(type(bright_cells(rows, 4)), list)

    def test_against_counting(self):
        for seed in range(100):
            dice = Random(seed)
            wide, high = dice.randint(1, 6), dice.randint(1, 6)
            rows = tuple(tuple(dice.randint(0, 9) for _ in range(wide)) for _ in range(high))
            level = dice.randint(0, 10)
            right = [(x, y) for x in range(wide) for y in range(high) if rows[y][x] >= level]
            self.assertEqual(bright_cells(rows, level), right)


class Blobs(unittest.TestCase):
    def test_sides_and_corners(self):
        self.assertEqual(blobs([(1, 1), (0, 0)]), [((0, 0), (1, 1))])
        self.assertEqual(blobs([(0, 1), (1, 0)]), [((0, 1), (1, 0))])
        self.assertEqual(blobs([(0, 0), (2, 0), (0, 2), (2, 2)]), [((0, 0),), ((0, 2),), ((2, 0),), ((2, 2),)])
        self.assertEqual(blobs([(0, 0), (2, 0), (1, 1)]), [((0, 0), (1, 1), (2, 0))])
        self.assertEqual(blobs([(3, 3), (3, 3)]), [((3, 3),)])
        self.assertEqual(blobs([]), [])
        self.assertEqual(blobs(()), [])

    def test_against_joining(self):
        several = 0
        for seed in range(300):
            dice = Random(seed)
            cells = [(dice.randint(-3, 4), dice.randint(-3, 4)) for _ in range(dice.randint(0, 20))]
            kept = list(cells)
            told = blobs(cells)
            self.assertEqual(told, blobs_plain(cells))
            self.assertEqual(cells, kept)
            several += len(told) > 2
        self.assertGreater(several, 50)

    def test_a_great_one(self):
        cells = [(x, y) for x in range(150) for y in range(150)]
        self.assertEqual(blobs(cells[::-1]), [tuple(cells)])
        ring = [(x, y) for x, y in cells if x in (0, 149) or y in (0, 149)]
        self.assertEqual(blobs(ring), [tuple(sorted(ring))])

    def test_middle(self):
        self.assertEqual(middle(((2, 3),)), (2, 3))
        self.assertEqual(middle(((0, 0), (1, 1))), (0, 0))
        self.assertEqual(middle(((0, 5), (1, 4), (3, 5))), (1, 4))
        self.assertEqual(middle(((-3, -1), (-2, 0), (-2, -2))), (-3, -1))
        self.assertEqual(middle(((-1, -1), (0, 0))), (-1, -1))

    def test_sizes(self):
        self.assertEqual([size_by(many, (2, 4, 4, 9)) for many in range(1, 11)], [1, 2, 2, 4, 4, 4, 4, 4, 5, 5])
        self.assertEqual([size_by(many, [9, 2]) for many in (1, 2, 8, 9)], [1, 2, 2, 3])
        self.assertEqual([size_by(many, ()) for many in (1, 50, MILLION)], [1, 1, 1])
        self.assertEqual([size_by(k, tuple(range(1, 200))) for k in (1, 97, 98, 99, 150, 500)], [2, 98, 99, 99, 99, 99])
        self.assertEqual(size_by(1, (0, -5)), 3)


class Pictures(unittest.TestCase):
    def test_by_hand(self):
        rows = rows_of("9900000", "9000090", "0000900", "0000000", "8000000")
        camera = Camera(7, 5, 0, 0, 0)
        self.assertEqual(picture_of(camera, rows, 8, (2, 3)), ((0, 0, 3), (0, 4, 1), (4, 1, 2)))
        self.assertEqual(picture_of(camera, rows, 9, ()), ((0, 0, 1), (4, 1, 1)))
        self.assertEqual(picture_of(camera, rows, 10, ()), ())
        self.assertEqual(picture_of(camera, rows, 0, (30,)), ((3, 2, 2),))
        self.assertEqual(picture_of(camera, list(rows), 10, ()), ())

    def number_of_wrong(self, *rows):
        with self.assertRaises(BadPicture) as told:
            picture_of(Camera(3, 2, 0, 0, 0), tuple(rows), 1, ())
        return told.exception.number

    def test_bad_rows(self):
        good = (0, MILLION, 5)
        for wrong in (None, 0, [0, 0, 0], (0, 0), (0, 0, 0, 0), (), (0, 0, -1), (0, 0, MILLION + 1), (0, True, 0),
                      (False, 0, 0), (0, 0, 1.0), (0, 0, None), "abc", (0, "0", 0)):
            self.assertEqual(self.number_of_wrong(wrong, good), 0, wrong)
            self.assertEqual(self.number_of_wrong(good, wrong), 1, wrong)
            self.assertEqual(self.number_of_wrong(good, wrong, wrong), 1, wrong)
            # Ahead of how many there are.
            self.assertEqual(self.number_of_wrong(good, good, good, good, wrong), 4, wrong)
            self.assertEqual(self.number_of_wrong(wrong), 0, wrong)

    def test_how_many_rows(self):
        good = (0, MILLION, 5)
        for many in (0, 1, 3, 4, 10):
            self.assertEqual(self.number_of_wrong(*[good] * many), many)
        self.assertEqual(picture_of(Camera(3, 2, 0, 0, 0), (good, good), 1, ()), ((1, 0, 1),))

    def test_what_fits(self):
        """Blobs within the error, of as many cells as make the size, none touching another."""
        steps = (1, 2, 3, 4)
        shown = 0
        for seed in range(300):
            dice = Random(seed)
            camera = Camera(dice.randint(8, 14), dice.randint(8, 14), dice.choice((1, 1, 2)), dice.randint(0, 2),
                            dice.randint(0, 2))
            bright = {}
            craters = []
            standing = (dice.randint(0, 3), dice.randint(-3, 3), dice.randint(-3, 3))
            for _ in range(dice.randint(1, 6)):
                x, y = dice.randrange(camera.width), dice.randrange(camera.height)
                around = [(x + a, y + b) for a in range(-camera.error, camera.error + 1)
                          for b in range(-camera.error, camera.error + 1)]
                cells = self.grown(dice, [(a, b) for a, b in around
                                          if 0 <= a < camera.width and 0 <= b < camera.height])
                if self.touches(cells, bright):
                    continue
                bright.update((cell, True) for cell in cells)
                size = size_by(len(cells), steps)
                craters.append((x, y, size))
            false = [crater for crater in craters if dice.random() < 0.3][:camera.false]
            left = [crater for crater in craters if crater not in false]
            lost = [(dice.randrange(camera.width), dice.randrange(camera.height), 7) for _ in range(camera.lost)]
            turn, a, b = standing
            back = Sky(Ground([]), camera, (0,), (0, 0, 0, 0))
            ground = [back.place((x - a, y - b, size), ((4 - turn) % 4, 0, 0)) for x, y, size in left + lost]
            sky = Sky(Ground(ground), camera, (0,), (0, 0, 0, 0))
            rows = tuple(tuple(dice.randint(50, 90) if (x, y) in bright else dice.randint(0, 49)
                               for x in range(camera.width)) for y in range(camera.height))
            self.assertTrue(fits(sky, picture_of(camera, rows, 50, steps), standing))
            shown += len(left) > 1
        self.assertGreater(shown, 100)

    def grown(self, dice, cells):
        """Some cells that hang together."""
        lot = [dice.choice(cells)]
        for _ in range(dice.randint(0, 4)):
            near = [cell for cell in cells if cell not in lot and self.touches([cell], lot)]
            if near:
                lot.append(dice.choice(near))
        return lot

    def touches(self, cells, others):
        return any(max(abs(x - a), abs(y - b)) <= 1 for x, y in cells for a, b in others)


if __name__ == "__main__":
    unittest.main()
