"""What the package is built on: putting rows to things, lots without links, masks; against trying all ways."""

import unittest
from itertools import combinations
from random import Random

from moonfall.budgets import Budget
from moonfall.independent import Network
from moonfall.masks import bits, count_bits, greatest_of, is_within, is_within_any, mask_of
from moonfall.matching import can_still_hold, is_short, lacks_more, shortage, short_lot
from moonfall.moreerrors import TooMany
from moonfall.shelves import Shelf
from moonfall.transversals import least_transversals
from plain import NEVER, greatest_put


def random_masks(dice):
    many = dice.randint(0, 6)
    return [sum(1 << k for k in range(many) if dice.random() < 0.4) for _ in range(dice.randint(0, 6))], many


class Matching(unittest.TestCase):
    def test_against_all_ways(self):
        for seed in range(600):
            masks, many = random_masks(Random(seed))
            left_out = len(masks) - greatest_put([bits(mask) for mask in masks])
            self.assertEqual(shortage(masks), left_out)
            for spare in range(-1, len(masks) + 1):
                self.assertIs(lacks_more(masks, spare), left_out > spare)
                rows = dict(enumerate(masks))
                lot = short_lot(rows, max(0, spare))
                self.assertEqual(lot is not None, left_out > max(0, spare))
                if lot is not None:
                    self.assertTrue(is_short(rows, lot, max(0, spare)))
            told, still = can_still_hold(masks, (1 << many) - 1)
            self.assertEqual(told, left_out)
            right = [thing for thing in range(many) if shortage(masks + [1 << thing]) == left_out]
            self.assertEqual(bits(still), right)

    def test_masks(self):
        self.assertEqual(bits(0b101101), [0, 2, 3, 5])
        self.assertEqual(mask_of([5, 0, 3, 2]), 0b101101)
        self.assertEqual([count_bits(mask) for mask in (0, 1, 0b101101, 1 << 200)], [0, 1, 4, 1])
        self.assertTrue(is_within(0b101, 0b111) and not is_within(0b1001, 0b111))
        self.assertTrue(is_within_any(0b101, [0b1, 0b101]) and not is_within_any(0b101, [0b1, 0b110]))
        self.assertEqual(greatest_of([0b1, 0b110, 0b111, 0b1000, 0b111, 0b1100]), [0b111, 0b1100])

    def test_shelves(self):
        for seed in range(200):
            dice = Random(seed)
            many = dice.randint(0, 6)
            shelf = Shelf(many)
            masks = []
            for _ in range(dice.randint(0, 8)):
                masks.append(dice.randrange(1 << many))
                shelf.put(masks[-1])
                for asked in range(1 << many):
                    around = [place for place, mask in enumerate(masks) if is_within(asked, mask)]
                    self.assertEqual(shelf.first_around(asked), around[0] if around else None)
                    self.assertIs(shelf.has_within(asked), any(is_within(mask, asked) for mask in masks))

    def test_transversals(self):
        for seed in range(200):
            dice = Random(seed)
            many = dice.randint(0, 6)
            masks = [dice.randrange(1 << many) for _ in range(dice.randint(0, 6))]
            meeting = [mask for mask in range(1 << many) if all(mask & each for each in masks)]
            least = [mask for mask in meeting if not any(is_within(less, mask) for less in meeting if less != mask)]
            self.assertEqual(sorted(least_transversals(masks, Budget(NEVER))), least)


def region_plain(links):
    """The least of the longest lots, thing by thing, by trying all."""
    def go(number, barred):
        if number == len(links):
            return []
        without = go(number + 1, barred)
        if barred >> number & 1:
            return without
        chosen = [number] + go(number + 1, barred | links[number])
        return chosen if len(chosen) >= len(without) else without

    return go(0, 0)


def random_links(dice, many, share):
    links = [0] * many
    for one, other in combinations(range(many), 2):
        if dice.random() < share:
            links[one] |= 1 << other
            links[other] |= 1 << one
    return links


class Networks(unittest.TestCase):
    def test_against_all_lots(self):
        for seed in range(400):
            dice = Random(seed)
            links = random_links(dice, dice.randint(0, 16), dice.random())
            self.assertEqual(Network(links, Budget(10 ** 9)).least_greatest(), region_plain(links), links)

    def test_several_hard_parts(self):
        for seed in range(60):
            dice = Random(seed)
            links = random_links(dice, 9, 0.5) + [0] * 9
            links[9:] = [mask << 9 for mask in random_links(dice, 9, 0.4)]
            bridge, far = dice.randrange(9), dice.randrange(9, 18)
            links[bridge] |= 1 << far
            links[far] |= 1 << bridge
            self.assertEqual(Network(links, Budget(10 ** 9)).least_greatest(), region_plain(links), links)

    def test_great_ones(self):
        # A ring, a row, and all linked to all but those beside them.
        ring = [1 << (k + 1) % 101 | 1 << (k - 1) % 101 for k in range(101)]
        self.assertEqual(Network(ring, Budget(10 ** 9)).least_greatest(), list(range(0, 100, 2)))
        row = [(1 << k + 1 | 1 << k >> 1) & (1 << 100) - 1 & ~(1 << k) for k in range(100)]
        self.assertEqual(Network(row, Budget(10 ** 9)).least_greatest(), list(range(0, 99, 2)))
        far = [sum(1 << other for other in range(60) if abs(k - other) > 3) for k in range(60)]
        self.assertEqual(Network(far, Budget(10 ** 9)).least_greatest(), [0, 1, 2, 3])

    def test_budget(self):
        dice = Random(1)
        links = random_links(dice, 40, 0.3)
        right = Network(links, Budget(10 ** 9)).least_greatest()
        with self.assertRaises(TooMany) as told:
            Network(links, Budget(3)).least_greatest()
        self.assertEqual(told.exception.most, 3)
        self.assertEqual(Network(links, Budget(10 ** 6)).least_greatest(), right)


if __name__ == "__main__":
    unittest.main()
