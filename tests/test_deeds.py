"""[26], [27]: the errors of landers, and deeds."""

import unittest

from moonfall import landererrors
from moonfall.deeds import Deed, away, land, look, step, turn
from moonfall.errors import MoonError
from moonfall.landererrors import BadBelief, BadCraft, BadCut, BadDeed, BadFlight

STILL = ((0, 0),)
AIMS = {"step": (1, -2), "turn": 3, "look": 0, "land": None, "away": None}


class Errors(unittest.TestCase):
    def test_parents_and_attributes(self):
        thing = [1, (2,)]
        for kind, word in ((BadDeed, "word"), (BadCraft, "word"), (BadBelief, "belief"), (BadFlight, "thing"),
                           (BadCut, "place")):
            self.assertEqual(kind.__bases__, (MoonError,), kind)
            self.assertEqual(kind.__module__, landererrors.__name__)
            self.assertIs(getattr(kind(thing), word), thing)


class Deeds(unittest.TestCase):
    def word_of(self, *parts):
        try:
            Deed(*parts)
        except BadDeed as e:
            return e.word
        return None

    def test_kinds(self):
        for kind, aim in AIMS.items():
            deed = Deed(kind, 7, aim, STILL)
            self.assertEqual((deed.kind, deed.fuel, deed.aim, deed.slips), (kind, 7, aim, STILL))
        for wrong in ("", "Step", "hover", None, 0, True, ["step"], ("step",), b"step", {}):
            self.assertEqual(self.word_of(wrong, 7, None, STILL), "kind")

    def test_fuel(self):
        for kind, aim in AIMS.items():
            for fuel in (1, 2, 999, 1000):
                self.assertIsNone(self.word_of(kind, fuel, aim, STILL))
            for fuel in (0, 1001, -1, True, False, None, "1", 1.0, (1,)):
                self.assertEqual(self.word_of(kind, fuel, aim, STILL), "fuel")

    def test_aims(self):
        right = {"step": [(0, 0), (1000, -1000), (-1000, 1000)], "turn": [1, 2, 3], "look": [0, 1, 999, 1000],
                 "land": [None], "away": [None]}
        others = [(1001, 0), (0, -1001), (True, 0), (0, False), [0, 0], (0, 0, 0), (0,), (0, 1.0), ("0", 0), 4, -1,
                  1001, True, False, "1", 1.0, (), {}, "away"]
        every = others + [aim for aims in right.values() for aim in aims]
        for kind, aims in right.items():
            for aim in every:
                is_right = repr(aim) in map(repr, aims) or kind == "look" and type(aim) is int and 0 <= aim <= 1000
                self.assertEqual(self.word_of(kind, 1, aim, STILL), None if is_right else "aim", (kind, aim))

    def test_slips(self):
        wrong = [(), [], [(0, 0)], ([0, 0],), ((0, 0), None), None, 0, ((0,),), ((0, 0, 0),), ((True, 0),),
                 ((0, False),), ((1001, 0),), ((0, -1001),), ((0, 0.0),), "ab", (0, 0), {(0, 0): 1}]
        for kind, aim in AIMS.items():
            for slips in wrong:
                self.assertEqual(self.word_of(kind, 1, aim, slips), "slips", (kind, slips))
            for slips in (((1, 0),), ((0, 0), (0, 0)), ((0, 0), (1, 0)), ((1000, -1000), (-1000, 1000))):
                is_right = kind in ("step", "land")
                self.assertEqual(self.word_of(kind, 1, aim, slips), None if is_right else "slips", (kind, slips))

    def test_slips_ascend_once(self):
        rows = ((2, 0), (0, 1), (0, -1), (2, 0), (0, 1))
        for kind in ("step", "land"):
            self.assertEqual(Deed(kind, 1, AIMS[kind], rows).slips, ((0, -1), (0, 1), (2, 0)))
        self.assertEqual(rows, ((2, 0), (0, 1), (0, -1), (2, 0), (0, 1)))

    def test_which_comes_first(self):
        wrong = ("hover", 0, "x", ())
        right = ("step", 1, (0, 0), STILL)
        words = ("kind", "fuel", "aim", "slips")
        for at, word in enumerate(words):
            self.assertEqual(self.word_of(*right[:at], *wrong[at:]), word)
        self.assertIsNone(self.word_of(*right))

    def test_makers(self):
        slips = ((1, 0), (0, 0))
        self.assertEqual(step(2, (3, -4), slips), Deed("step", 2, (3, -4), slips))
        self.assertEqual(turn(3, 1), Deed("turn", 3, 1, STILL))
        self.assertEqual(look(4, 5), Deed("look", 4, 5, STILL))
        self.assertEqual(land(5, slips), Deed("land", 5, None, slips))
        self.assertEqual(away(6), Deed("away", 6, None, STILL))
        for call, word in ((lambda: step(0, None, None), "fuel"), (lambda: step(1, None, None), "aim"),
                           (lambda: step(1, (0, 0), None), "slips"), (lambda: turn(1, 0), "aim"),
                           (lambda: turn(1, 4), "aim"), (lambda: look(1, -1), "aim"), (lambda: look(0, 0), "fuel"),
                           (lambda: land(1, ()), "slips"),
                           (lambda: away(1001), "fuel"), (lambda: away(True), "fuel")):
            with self.assertRaises(BadDeed) as told:
                call()
            self.assertEqual(told.exception.word, word)

    def test_equality(self):
        deed = step(2, (1, 0), ((0, 1), (0, 0)))
        self.assertTrue(deed == step(2, (1, 0), ((0, 0), (0, 1), (0, 0))))
        for other in (step(3, (1, 0), deed.slips), step(2, (0, 0), deed.slips), step(2, (1, 0), STILL),
                      land(2, deed.slips), ("step", 2, (1, 0), deed.slips), None, 2, "step"):
            self.assertIs(deed == other, False)
            self.assertIs(deed != other, True)
        self.assertFalse(land(2, STILL) == away(2))


if __name__ == "__main__":
    unittest.main()
