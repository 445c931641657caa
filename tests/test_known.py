"""What searches keep: fuel that is enough for beliefs, and fuel that isn't, asked without going through all."""

import unittest
from random import Random

from moonfall.enough import Enough
from moonfall.shortages import Shortages


class Known(unittest.TestCase):
    def test_enough(self):
        for seed in range(60):
            dice = Random(seed)
            enough = Enough()
            rows = {}
            for _ in range(40):
                mask, fuel, at = dice.randrange(1, 256), dice.randint(0, 60), dice.randrange(9)
                enough.put(mask, fuel, at)
                if mask not in rows or rows[mask][0] > fuel:
                    rows[mask] = (fuel, at)
                self.assertEqual(enough.row(mask), rows[mask])
                mask, fuel = dice.randrange(1, 1024), dice.randint(0, 60)
                wider = [lot for lot in rows if rows[lot][0] <= fuel and not mask & ~lot]
                # The belief itself, else the one that was put first.
                right = mask if mask in wider else wider[0] if wider else None
                self.assertEqual(enough.wider(mask, fuel), right)

    def test_shortages(self):
        for seed in range(60):
            dice = Random(seed)
            shortages = Shortages()
            rows = []
            for _ in range(40):
                rows.append((dice.randrange(1, 256), dice.randint(0, 60)))
                shortages.put(*rows[-1])
                mask, fuel = dice.randrange(512), dice.randint(-3, 60)
                right = any(short >= fuel and not lot & ~mask for lot, short in rows)
                self.assertIs(shortages.has_within(mask, fuel), right)


if __name__ == "__main__":
    unittest.main()
