"""[47]: drawings."""

import unittest
from random import Random

from moonfall.crafts import Craft
from moonfall.drawings import draw_belief, draw_clear, draw_ground, is_clear, read_ground
from moonfall.errors import BadGround
from moonfall.grounds import Camera, Ground, Sky
from moonfall.texterrors import BadText
from plaincraft import cases, is_safe_plain, random_belief, random_craft
from test_values import example


def boxes(dice):
    low = (dice.randint(-6, 4), dice.randint(-6, 4))
    return low, (low[0] + dice.randint(0, 9), low[1] + dice.randint(0, 9))


def cells_of(rows, lows, highs, told):
    """Check the form of rows, and go through their cells."""
    told.assertIs(type(rows), list)
    told.assertEqual(len(rows), highs[1] - lows[1] + 1)
    for y, row in enumerate(rows, lows[1]):
        told.assertIs(type(row), str)
        told.assertEqual(len(row), highs[0] - lows[0] + 1)
        for x, sign in enumerate(row, lows[0]):
            yield x, y, sign


def sign_plain(number):
    return "." if number == 0 else str(number) if number < 10 else "+"


class Grounds(unittest.TestCase):
    def test_draw_ground(self):
        for seed in range(200):
            dice = Random(seed)
            craters = [(dice.randint(-5, 5), dice.randint(-5, 5), dice.choice((1, 2, 9, 10, 99)))
                       for _ in range(dice.randint(0, 30))]
            lows, highs = boxes(dice)
            rows = draw_ground(Ground(craters), lows, highs)
            for x, y, sign in cells_of(rows, lows, highs, self):
                sizes = [size for a, b, size in craters if (a, b) == (x, y)]
                self.assertEqual(sign, sign_plain(max(sizes, default=0)))

    def test_examples(self):
        ground = Ground([(0, 0, 1), (2, 1, 12), (2, 1, 3), (-1, -2, 9), (-1, -2, 4), (5, 5, 10), (6, 5, 9)])
        self.assertEqual(draw_ground(ground, (0, 0), (2, 1)), ["1..", "..+"])
        self.assertEqual(draw_ground(ground, (-1, -2), (0, 0)), ["9.", "..", ".1"])
        self.assertEqual(draw_ground(ground, (0, 0), (0, 0)), ["1"])
        self.assertEqual(draw_ground(ground, (2, 1), (2, 1)), ["+"])
        self.assertEqual(draw_ground(ground, (1, 0), (1, 0)), ["."])
        self.assertEqual(draw_ground(ground, (-9, -2), (0, -2)), ["........9."])
        self.assertEqual(draw_ground(ground, (5, 4), (6, 5)), ["..", "+9"])
        self.assertEqual(draw_ground(ground, (-1, -2), (-1, 0)), ["9", ".", "."])

    def test_there_and_back(self):
        for seed in range(200):
            dice = Random(seed)
            wide, high = dice.randint(1, 12), dice.randint(1, 12)
            cells = dice.sample([(x, y) for x in range(wide) for y in range(high)], dice.randint(0, min(100, wide * high)))
            ground = Ground([(x, y, dice.randint(1, 9)) for x, y in cells])
            rows = draw_ground(ground, (0, 0), (wide - 1, high - 1))
            self.assertEqual(read_ground("\n".join(rows)), ground)
        for wide, high in ((100, 1), (1, 100), (100, 100)):
            text = "\n".join(["." * wide] * high)
            self.assertEqual(read_ground(text), Ground([]))
            self.assertEqual(read_ground(text[:-1] + "7"), Ground([(wide - 1, high - 1, 7)]))

    def bad(self, text, row, place):
        with self.assertRaises(BadText) as told:
            read_ground(text)
        self.assertEqual((told.exception.line, told.exception.word), (row, place), text)

    def test_rows_that_are_wrong(self):
        for text, row in (("", 0), ("\n", 0), (".\n", 1), ("..\n..\n", 2), ("..\n\n..", 1), ("\n..", 0), ("..\n.", 1), ("..\n...", 1),
                          ("." * 101, 0), ("." * 101 + "\n" + "." * 101, 0), ("..\n" + "." * 101, 1),
                          ("\n".join(["."] * 101), 100), ("\n".join(["."] * 100 + [""]), 100), ("\n".join(["."] * 200), 100)):
            self.bad(text, row, 0)

    def test_signs_that_are_wrong(self):
        for sign in ("0", "+", "x", " ", "-", ",", "\r", "\t", "o", "\u0661", "\u00b2", "a", "\x0b", "\u2028"):
            for place in range(3):
                row = "." * place + sign + "." * (2 - place)
                self.bad(row, 0, place)
                self.bad("1.2\n" + row + "\n...", 1, place)
        self.bad("..x..x", 0, 2)

    def test_which_comes_first(self):
        self.bad("...\n..x\n..", 1, 2)
        self.bad("...\n..\n..x", 1, 0)
        self.bad("...\nxx", 1, 0)
        self.bad("x" * 101, 0, 0)
        self.bad(".x\n.", 0, 1)
        self.bad("\n".join([".", *["."] * 98, "x", "x"]), 99, 0)
        self.bad("\n".join(["1" * 100] * 2 + ["x" * 100]), 2, 0)
        self.bad("\n".join(["1" * 100] * 101), 100, 0)

    def test_too_many_craters(self):
        self.assertEqual(len(read_ground("1" * 100).craters), 100)
        for text in ("1" * 100 + "\n" + "1" + "." * 99, "\n".join(["11"] * 51), "\n".join(["9" * 100] * 100)):
            with self.assertRaises(BadGround) as told:
                read_ground(text)
            self.assertEqual(told.exception.number, 100)


class Clear(unittest.TestCase):
    def test_is_clear(self):
        told = {True: 0, False: 0}
        for seed in range(300):
            craft = random_craft(seed)
            for standing in craft.skies[0].standings():
                right = is_safe_plain(craft, standing)
                self.assertIs(is_clear(craft, craft.cell_below(standing)), right)
                self.assertIs(craft.is_safe(standing), right)
                told[right] += 1
            dice = Random(seed)
            cell = (dice.randint(-9, 9), dice.randint(-9, 9))
            right = all(max(abs(x - cell[0]), abs(y - cell[1])) > size + craft.room
                        for x, y, size in craft.skies[0].ground.craters)
            self.assertIs(is_clear(craft, cell), right)
        self.assertGreater(min(told.values()), 1000)

    def test_draw_clear(self):
        sky = Sky(Ground([(0, 0, 1), (5, 1, 2)]), Camera(1, 1, 0, 0, 0), (3,), (0, 0, 0, 0))
        craft = Craft((sky,), (7, -4), 0, ())
        self.assertEqual(draw_clear(craft, (-2, -2), (8, 3)), ["ooooooooooo", "oxxxoxxxxxo", "oxxxoxxxxxo", "oxxxoxxxxxo",
                                                             "oooooxxxxxo", "oooooxxxxxo"])
        self.assertEqual(draw_clear(craft, (2, 0), (2, 0)), ["o"])
        self.assertEqual(draw_clear(craft, (1, 1), (1, 1)), ["x"])
        wide = Craft((sky,), (0, 0), 1, ())
        self.assertEqual(draw_clear(wide, (1, 2), (3, 3)), ["xxx", "oxx"])
        for seed in range(100):
            craft = random_craft(seed)
            lows, highs = boxes(Random(seed))
            for x, y, sign in cells_of(draw_clear(craft, lows, highs), lows, highs, self):
                self.assertEqual(sign, "o" if is_clear(craft, (x, y)) else "x")


class Beliefs(unittest.TestCase):
    def test_draw_belief(self):
        most = 0
        for dice, craft, _, _ in cases(200, 950000):
            belief = random_belief(dice, craft, 12)
            lows, highs = boxes(dice)
            for x, y, sign in cells_of(draw_belief(craft, belief, lows, highs), lows, highs, self):
                many = sum(craft.cell_below(standing) == (x, y) for standing in belief)
                self.assertEqual(sign, sign_plain(many))
                most = max(most, many)
        self.assertGreater(most, 1)

    def test_several_at_one_cell(self):
        sky = Sky(Ground([]), Camera(1, 1, 0, 0, 0), (0, 1, 2, 3), (-3, 3, -3, 3))
        craft = Craft((sky,), (0, 0), 0, ())
        belief = ((0, 0, 0), (0, 1, 2), (1, 0, 0), (2, 0, 0), (3, 0, 0))
        self.assertEqual(draw_belief(craft, belief, (-1, -2), (1, 0)), ["1..", "...", ".4."])
        self.assertEqual(draw_belief(craft, belief, (0, 0), (0, 0)), ["4"])
        self.assertEqual(draw_belief(craft, belief, (3, 3), (4, 3)), [".."])
        # Any standings, as many as may be.
        for many, sign in ((9, "9"), (10, "+"), (40, "+")):
            self.assertEqual(draw_belief(craft, ((0, 0, 0),) * many, (0, 0), (0, 0)), [sign])
        self.assertEqual(draw_belief(example(), ((0, -1, 0), (0, 2, 0)), (-2, 0), (1, 0)), ["1..1"])


if __name__ == "__main__":
    unittest.main()
