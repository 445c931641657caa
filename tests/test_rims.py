"""[25]: rims."""

import unittest
from random import Random

from moonfall.rims import is_barred, radius_of, rim, rims_in, shared_cells, votes


def is_on(x, y, radius):
    """[25] by its words."""
    if radius == 0:
        return (x, y) == (0, 0)
    return radius * radius - radius < x * x + y * y <= radius * radius + radius


def rim_plain(radius):
    reach = range(-radius - 2, radius + 3)
    return [(x, y) for x in reach for y in reach if is_on(x, y, radius)]


def votes_plain(cells, radii):
    """How many cells are on each rim about all places near by, 0s left out."""
    far = max(radii, default=0) + 1
    numbers = [number for cell in cells for number in cell]
    reach = range(min(numbers, default=0) - far, max(numbers, default=0) + far + 1)
    told = {}
    for radius in radii:
        for x in reach:
            for y in reach:
                many = sum(is_on(a - x, b - y, radius) for a, b in set(cells))
                if many:
                    told[x, y, radius] = many
    return told


class Rims(unittest.TestCase):
    def test_rim(self):
        self.assertEqual(rim(0), [(0, 0)])
        square = [(-1, -1), (-1, 0), (-1, 1), (0, -1), (0, 1), (1, -1), (1, 0), (1, 1)]
        self.assertEqual(rim(1), square)
        for radius in range(41):
            self.assertEqual(rim(radius), rim_plain(radius))
            self.assertIs(type(rim(radius)), list)

    def test_each_cell_is_of_one_rim(self):
        lots = {radius: set(rim(radius)) for radius in range(60)}
        for x in range(-35, 36):
            for y in range(-35, 36):
                on = [radius for radius, cells in lots.items() if (x, y) in cells]
                self.assertEqual(on, [radius_of(x, y)])
        for x, y in ((10 ** 9, 0), (-10 ** 9, 10 ** 9 + 1), (123456789, -987654321)):
            self.assertTrue(is_on(x, y, radius_of(x, y)))

    def test_votes_by_hand(self):
        self.assertEqual(votes([(5, 5)], (0,)), {(5, 5, 0): 1})
        self.assertEqual(votes([(5, 5), (5, 5)], [1]), {(5 + x, 5 + y, 1): 1 for x, y in rim(1)})
        told = votes([(0, 0), (2, 0)], (1,))
        self.assertEqual((told[1, 0, 1], told[-1, 0, 1], len(told)), (2, 1, 13))
        self.assertEqual(votes([], (1, 2)), {})
        self.assertEqual(votes([(0, 0)], ()), {})

    def test_votes(self):
        for seed in range(60):
            dice = Random(seed)
            cells = [(dice.randint(-3, 3), dice.randint(-3, 3)) for _ in range(dice.randint(0, 8))]
            radii = tuple(dice.sample(range(5), dice.randint(0, 3)))
            told = votes(cells, radii)
            self.assertEqual(told, votes_plain(cells, radii))
            self.assertNotIn(0, told.values())

    def test_rims_in(self):
        found = 0
        for seed in range(60):
            dice = Random(seed)
            cells = set()
            for _ in range(dice.randint(1, 3)):
                x, y, radius = dice.randint(-4, 4), dice.randint(-4, 4), dice.randint(0, 3)
                cells.update((x + a, y + b) for a, b in rim(radius) if dice.random() < 0.9)
            cells = dice.sample(sorted(cells), len(cells))
            radii = dice.sample(range(4), 2)
            missing = dice.randint(0, len(rim(min(radii))) - 1)
            reach = range(-12, 13)
            right = tuple((x, y, radius) for x in reach for y in reach for radius in sorted(radii)
                          if sum((x + a, y + b) not in cells for a, b in rim(radius)) <= missing)
            told = rims_in(cells + cells[:2], radii, missing)
            self.assertEqual(told, right)
            found += 1 < len(told)
        self.assertGreater(found, 20)
        self.assertEqual(rims_in([], (0, 1), 0), ())
        self.assertEqual(rims_in([(3, 4)], (0,), 0), ((3, 4, 0),))

    def test_shared_cells(self):
        for seed in range(400):
            dice = Random(seed)
            one, other = [(dice.randint(-9, 9), dice.randint(-9, 9), dice.randint(0, 9)) for _ in range(2)]
            lots = [{(x + a, y + b) for a, b in rim(radius)} for x, y, radius in (one, other)]
            self.assertEqual(shared_cells(one, other), len(lots[0] & lots[1]))
            self.assertEqual(shared_cells(other, one), len(lots[0] & lots[1]))
        self.assertEqual(shared_cells((1, 2, 5), (1, 2, 5)), len(rim(5)))
        self.assertEqual(shared_cells((1, 2, 5), (1, 2, 6)), 0)
        self.assertEqual(shared_cells((0, 0, 5), (50, 0, 5)), 0)

    def test_is_barred(self):
        one, other = (0, 0, 5), (3, 0, 5)
        many = shared_cells(one, other)
        cells = len(rim(5))
        self.assertGreater(many, 0)
        for others, shared in (([other], many), ((other, other), 2 * many), ((), 0)):
            self.assertIs(is_barred(one, others, cells - shared - 1), True)
            self.assertIs(is_barred(one, others, cells - shared), False)
            self.assertIs(is_barred(one, others, cells), False)

    def test_barred_ones_are_not_told(self):
        barred = 0
        for seed in range(300):
            dice = Random(seed)
            one, *others = [(dice.randint(-4, 4), dice.randint(-4, 4), dice.randint(2, 5))
                            for _ in range(dice.randint(2, 5))]
            missing = dice.randint(0, 11)
            if not is_barred(one, others, missing):
                continue
            barred += 1
            bright = sorted({(x + a, y + b) for x, y, radius in others for a, b in rim(radius)})
            for cells in (bright, [cell for cell in bright if dice.random() < 0.8]):
                self.assertNotIn(one, rims_in(cells, (one[2],), missing))
        self.assertGreater(barred, 30)


if __name__ == "__main__":
    unittest.main()
