"""[24]: brightness that may be more or less by a slack."""

import unittest
from itertools import combinations, product
from random import Random

from moonfall.doubtful import doubtful_blobs, maybe_cells, most_spots, sure_blobs, sure_cells, sure_points
from moonfall.grounds import Camera
from moonfall.moreerrors import TooMany
from moonfall.pixels import blobs, bright_cells, picture_of
from moonfall.scattered import most_scattered
from plain import NEVER

MILLION = 1000000


def all_brightness(rows, slack):
    """All brightness within a slack."""
    wide = len(rows[0])
    flat = [range(worth - slack, worth + slack + 1) for row in rows for worth in row]
    for worths in product(*flat):
        yield tuple(worths[at:at + wide] for at in range(0, len(worths), wide))


def scattered_plain(cells):
    for many in range(len(cells), 0, -1):
        for lot in combinations(cells, many):
            if all(max(abs(x - a), abs(y - b)) > 1 for (x, y), (a, b) in combinations(lot, 2)):
                return many
    return 0


class Doubtful(unittest.TestCase):
    def check(self, rows, level, slack):
        """Against going through all brightness within the slack; how many spots more there can be."""
        bright = [bright_cells(each, level) for each in all_brightness(rows, slack)]
        cells = [(x, y) for x in range(len(rows[0])) for y in range(len(rows))]
        self.assertEqual(sure_cells(rows, level, slack), [cell for cell in cells if all(cell in row for row in bright)])
        maybe = [cell for cell in cells if any(cell in row for row in bright)]
        self.assertEqual(maybe_cells(rows, level, slack), maybe)
        there = [blobs(row) for row in bright]
        sure = [blob for blob in there[0] if all(blob in row for row in there)]
        self.assertEqual(sure_blobs(rows, level, slack), sure)
        self.assertEqual(doubtful_blobs(rows, level, slack), [blob for blob in blobs(maybe) if blob not in sure])
        most = max(len(row) for row in there) - len(sure)
        self.assertEqual(most_spots(rows, level, slack, NEVER), most)
        camera = Camera(len(rows[0]), len(rows), 0, 0, 0)
        dark = tuple(tuple(int(any((x, y) in blob for blob in sure)) for x in range(len(rows[0])))
                     for y in range(len(rows)))
        self.assertEqual(sure_points(rows, level, slack, (2, 3)), picture_of(camera, dark, 1, (2, 3)))
        return most, len(sure)

    def test_against_all_brightness(self):
        spots = {}
        surely = 0
        for seed in range(110):
            dice = Random(seed)
            wide, high = dice.choice(((6, 1), (3, 2), (2, 3), (1, 6), (7, 1), (1, 5)))
            rows = tuple(tuple(dice.choice((0, 0, 2, 3, 4, 6)) for _ in range(wide)) for _ in range(high))
            most, many = self.check(rows, 3, 1)
            spots[most] = spots.get(most, 0) + 1
            surely += many
        self.assertGreater(min(spots[most] for most in (0, 1, 2)), 5)
        self.assertGreater(surely, 30)

    def test_against_all_subsets(self):
        """The same of more cells: each one that isn't sure may be there or not."""
        spots = {}
        for seed in range(150):
            dice = Random(seed)
            wide, high = dice.randint(2, 6), dice.randint(2, 6)
            rows = [[dice.choice((0, 0, 9, 9)) for _ in range(wide)] for _ in range(high)]
            for _ in range(10):
                rows[dice.randrange(high)][dice.randrange(wide)] = dice.choice((4, 5, 6))
            rows = tuple(map(tuple, rows))
            sure = sure_cells(rows, 5, 2)
            unsure = [cell for cell in maybe_cells(rows, 5, 2) if cell not in sure]
            maybe = [(x, y) for x in range(wide) for y in range(high) if rows[y][x] >= 3]
            self.assertEqual(sorted(sure + unsure), maybe)
            most = 0
            for many in range(len(unsure) + 1):
                for lot in combinations(unsure, many):
                    most = max(most, len(blobs(sure + list(lot))))
            told = most_spots(rows, 5, 2, NEVER)
            self.assertEqual(told + len(sure_blobs(rows, 5, 2)), most)
            spots[told] = spots.get(told, 0) + 1
        self.assertGreater(len(spots), 4)

    def test_without_slack(self):
        for seed in range(60):
            dice = Random(seed)
            rows = tuple(tuple(dice.choice((0, 5, 9)) for _ in range(5)) for _ in range(4))
            cells = bright_cells(rows, 5)
            self.assertEqual((sure_cells(rows, 5, 0), maybe_cells(rows, 5, 0)), (cells, cells))
            self.assertEqual((sure_blobs(rows, 5, 0), doubtful_blobs(rows, 5, 0)), (blobs(cells), []))
            self.assertEqual(most_spots(rows, 5, 0, 1), 0)
            self.assertEqual(sure_points(rows, 5, 0, (2,)), picture_of(Camera(5, 4, 0, 0, 0), rows, 5, (2,)))

    def test_beyond_what_brightness_can_be(self):
        rows = ((0, MILLION, 0),)
        self.assertEqual(maybe_cells(rows, MILLION + 1, 1), [(1, 0)])
        self.assertEqual(maybe_cells(rows, MILLION + 2, 1), [])
        self.assertEqual(sure_cells(rows, -1, 1), [(0, 0), (1, 0), (2, 0)])
        self.assertEqual(sure_cells(rows, 0, 1), [(1, 0)])
        self.assertEqual(most_spots(rows, 0, 1, NEVER), 1)
        self.assertEqual(most_spots(rows, 0, MILLION + 1, NEVER), 2)

    def test_too_many_just_so(self):
        # Two doubtful blobs: of three cells that aren't sure and a sure one, and of two.
        rows = ((5, 9, 5, 5, 0, 5, 5, 0, 9),)
        self.assertEqual([len(blob) for blob in doubtful_blobs(rows, 5, 1)], [4, 2])
        for most in range(8):
            if most <= 3:
                with self.assertRaises(TooMany) as told:
                    most_spots(rows, 5, 1, most)
                self.assertEqual(told.exception.most, most)
            else:
                self.assertEqual(most_spots(rows, 5, 1, most), 3)
        for empty in (((0, 0),), ((9, 0),)):
            with self.assertRaises(TooMany):
                most_spots(empty, 5, 1, 0)
            self.assertEqual(most_spots(empty, 5, 1, 1), 0)

    def test_great_doubt(self):
        rows = tuple((5,) * 60 for _ in range(40))
        self.assertEqual(most_spots(rows, 5, 1, NEVER), 30 * 20)
        self.assertEqual(most_spots(rows, 5, 1, 2401), 600)
        with self.assertRaises(TooMany):
            most_spots(rows, 5, 1, 2400)

    def test_scattered(self):
        for seed in range(300):
            dice = Random(seed)
            cells = [(x, y) for x in range(dice.randint(1, 6)) for y in range(6) if dice.random() < 0.45][:14]
            dice.shuffle(cells)
            self.assertEqual(most_scattered(cells), scattered_plain(cells))
        # A ring of cells around nothing: no cell of it bars least.
        ring = [(x, y) for x in range(7) for y in range(7) if x in (0, 6) or y in (0, 6)]
        self.assertEqual(most_scattered(ring), 12)
        self.assertEqual(most_scattered([cell for cell in ring if cell not in ((0, 0), (6, 0), (0, 6), (6, 6))]), 10)
        self.assertEqual(most_scattered([]), 0)


if __name__ == "__main__":
    unittest.main()
