"""[46], [48]: numbers, pictures, beliefs and deeds as words."""

import re
import unittest
from random import Random

from moonfall.deeds import Deed, away, land, look, step, turn
from moonfall.errors import MoonError
from moonfall.moontexts import (belief_of, belief_text, deed_text, number_of, picture_of, picture_text, read_deed,
                                read_deeds, write_deeds)
from moonfall.texterrors import BadText
from plain import random_picture, random_sky
from plaincraft import STILL, deed_of, random_belief, random_craft

NUMBER = "(0|-?[1-9][0-9]{0,6})"
# What stands for nothing, or is a digit elsewhere.
STRANGE = ("", "-", "--1", "+1", "07", "-07", "00", "-0", "1.0", "1e3", "0x1", " 1", "1 ", "1\n", "\n", "1_0", "x", "1,", ",1",
           "\u0661", "\u00b2", "\uff11", "1\u0661", "- 1", "1-", "12345678", "-12345678", "0000001", "None", "True", "\u22121")


class Errors(unittest.TestCase):
    def test_bad_text(self):
        e = BadText(3, 5)
        self.assertEqual((e.line, e.word), (3, 5))
        self.assertIs(BadText.__mro__[1], MoonError)


class Numbers(unittest.TestCase):
    def test_there_and_back(self):
        dice = Random(1)
        numbers = [dice.randint(-9999999, 9999999) for _ in range(200)] + list(range(-120, 121))
        for number in (*numbers, 999999, 1000000, 9999999, -9999999, -1000000):
            told = number_of(str(number))
            self.assertEqual(told, number)
            self.assertIs(type(told), int)

    def test_words_that_are_none(self):
        for word in STRANGE:
            self.assertIsNone(number_of(word), word)
        for number in (10000000, -10000000, 10 ** 40):
            self.assertIsNone(number_of(str(number)))

    def test_any_words(self):
        dice = Random(2)
        for _ in range(4000):
            word = "".join(dice.choice("0123456789-+ ,\u0663") for _ in range(dice.randint(0, 9)))
            right = int(word) if re.fullmatch(NUMBER, word, re.ASCII) else None
            self.assertEqual(number_of(word), right, word)


class Rows(unittest.TestCase):
    def test_pictures(self):
        self.assertEqual(picture_text(()), "-")
        self.assertEqual(picture_text(((2, 0, 1),)), "2,0,1")
        self.assertEqual(picture_text(((2, 0, 1), (0, 11, 99))), "2,0,1;0,11,99")
        for seed in range(200):
            sky = random_sky(seed)
            picture = random_picture(sky, Random(seed), 6)
            self.assertEqual(picture_of(picture_text(picture)), picture)
        # Any triples, in any order.
        for word, right in (("-", ()), ("-1,0,-7", ((-1, 0, -7),)), ("5,5,5;1,1,1;5,5,5", ((5, 5, 5), (1, 1, 1), (5, 5, 5))),
                            ("9999999,-9999999,100", ((9999999, -9999999, 100),))):
            self.assertEqual(picture_of(word), right)

    def test_beliefs(self):
        self.assertEqual(belief_text(((0, -1, 0), (0, 2, 0))), "0,-1,0;0,2,0")
        self.assertEqual(belief_text(()), "-")
        for seed in range(200):
            belief = random_belief(Random(seed), random_craft(seed), 7)
            self.assertEqual(belief_of(belief_text(belief)), belief)
        self.assertEqual(belief_of("5,-9999999,0"), ((5, -9999999, 0),))
        for word in ("-", "0,2,0;0,-1,0", "0,2,0;0,2,0", "0,1,0;0,2,0;0,2,0", "1,0,0;0,5,5", "0,0,1;0,0,0"):
            self.assertIsNone(belief_of(word), word)

    def test_words_that_are_none(self):
        for read in (picture_of, belief_of):
            for word in ("", "1", "1,2", "1,2,3,4", "1,2,3;", ";1,2,3", "1,2,3;;4,5,6", "1,2,3;4,5", "1,2,3;-", "-;1,2,3",
                         "1;2;3", "1 ,2,3", "1,2, 3", "(1,2,3)", "1,2,3\n", "--", "1,2,3,", ",1,2,3", ",,", ";", "1.2.3"):
                self.assertIsNone(read(word), word)
            for number in STRANGE:
                for word in (f"{number},2,3", f"1,{number},3", f"1,2,{number}", f"1,2,3;4,{number},6"):
                    self.assertIsNone(read(word), word)


class Deeds(unittest.TestCase):
    def test_there_and_back(self):
        for deed, text in ((step(2, (1, 0), ((0, 1), (0, 0))), "step 2 1,0 0,0;0,1"), (turn(1000, 3), "turn 1000 3 0,0"),
                           (look(1, 0), "look 1 0 0,0"), (look(3, 1000), "look 3 1000 0,0"), (away(7), "away 7 - 0,0"),
                           (land(1, ((0, 0),)), "land 1 - 0,0"), (land(9, ((2, 1), (-1, 5))), "land 9 - -1,5;2,1"),
                           (step(1, (-1000, 1000), ((-1000, 1000),)), "step 1 -1000,1000 -1000,1000")):
            self.assertEqual(deed_text(deed), text)
            self.assertEqual(read_deed(text, 0), deed)
            self.assertIs(type(read_deed(text, 0)), Deed)
        for seed in range(400):
            deed = deed_of(Random(seed), 3)
            self.assertEqual(read_deed(deed_text(deed), 7), deed)

    def bad(self, text, word):
        for line in (0, 5):
            with self.assertRaises(BadText) as told:
                read_deed(text, line)
            self.assertEqual((told.exception.line, told.exception.word), (line, word), text)

    def test_kinds(self):
        for text in ("", " ", "hover 1 - 0,0", "Step 1 1,0 0,0", " step 1 1,0 0,0", "step\t1 1,0 0,0", "1", "hover 1 - 0,0 0",
                     "hover", "steps 1 1,0 0,0", "-", "step,1", "land\n"):
            self.bad(text, 0)

    def test_a_word_too_much(self):
        # Ahead of all but the kind.
        for text in ("step 1 1,0 0,0 0", "step x x x x", "step 1 1,0 0,0 ", "step  1 1,0 0,0", "step 1  1,0 0,0",
                     "land 1 - 0,0 0,0 0,0", "away 0 5 5 5 5 5 5", "look    "):
            self.bad(text, 4)

    def test_a_lacking_word(self):
        for kind, aim in (("step", "1,0"), ("turn", "1"), ("look", "0"), ("land", "-"), ("away", "-")):
            self.bad(kind, 1)
            self.bad(f"{kind} 1", 2)
            self.bad(f"{kind} 1 {aim}", 3)
            self.bad(f"{kind} 0", 1)
            self.bad(f"{kind} 1 x", 2)
            # An empty word is wrong.
            self.bad(f"{kind} ", 1)
            self.bad(f"{kind}  {aim} 0,0", 1)
            self.bad(f"{kind} 1  0,0", 2)
            self.bad(f"{kind} 1 {aim} ", 3)

    def test_fuel(self):
        for word in (*STRANGE, "0", "-1", "1001", "9999999"):
            if " " not in word:
                self.bad(f"land {word} x x", 1)
        self.assertEqual(read_deed("land 1000 - 0,0", 0).fuel, 1000)

    def test_aims(self):
        wrong = {"step": ("-", "1", "1,0,0", "1,0;0,1", "1001,0", "0,-1001", "x", "1,", ",0", "01,0", "-0,0", "1,0;"),
                 "turn": ("-", "0", "4", "-1", "1,0", "x", "01", "+1", "1;1"), "land": ("0", "1,0", "x", "--", "None", "-1"),
                 "look": ("-", "-1", "1001", "1,0", "x", "00", "-0"), "away": ("0", "1,0", "x", "--", "None", "-1")}
        for kind, words in wrong.items():
            for word in words:
                self.bad(f"{kind} 1 {word} x", 2)
                self.bad(f"{kind} 1 {word}", 2)
                self.bad(f"{kind} x {word} x", 1)

    def test_slips(self):
        for kind, aim in (("step", "1,0"), ("land", "-")):
            for word in ("-", "x", "0", "0,0,0", "0,0;", ";0,0", "0,1;0,0", "0,0;0,0", "1,0;0,5", "0,0;1,1;1,0", "1001,0",
                         "0,-1001", "0,0;0,0,0", "00,0", "-0,0", "0,0;0,01", "0\t,0"):
                self.bad(f"{kind} 1 {aim} {word}", 3)
            self.assertEqual(read_deed(f"{kind} 1 {aim} -1,3;0,-5;0,0", 0).slips, ((-1, 3), (0, -5), (0, 0)))
        for kind, aim in (("turn", "1"), ("look", "0"), ("away", "-")):
            for word in ("-", "x", "0", "1,0", "0,0;0,0", "0,0;0,1", "0,0;", "0,1"):
                self.bad(f"{kind} 1 {aim} {word}", 3)

    def test_many(self):
        self.assertEqual(write_deeds(()), "")
        self.assertEqual(read_deeds(""), ())
        for seed in range(100):
            dice = Random(seed)
            deeds = tuple(deed_of(dice, 2) for _ in range(dice.randint(1, 6)))
            text = write_deeds(deeds)
            self.assertEqual(text.split("\n"), [deed_text(deed) for deed in deeds])
            self.assertEqual(write_deeds(list(deeds)), text)
            self.assertEqual(read_deeds(text), deeds)
            self.assertIs(type(read_deeds(text)), tuple)
            # A line feed at the end makes one line more, an empty one.
            for wrong, line in ((text + "\n", len(deeds)), ("\n" + text, 0), (text + "\n\n", len(deeds))):
                with self.assertRaises(BadText) as told:
                    read_deeds(wrong)
                self.assertEqual((told.exception.line, told.exception.word), (line, 0))

    def test_the_first_wrong_line(self):
        good = deed_text(step(1, (1, 0), STILL))
        for rows, line, word in (((good, "x", good), 1, 0), ((good, good, "land 0 - 0,0"), 2, 1), (("\r", good), 0, 0),
                                 (("land 1 - 0,0;0,0", "x"), 0, 3), ((good, "land 1 - 0,0 0", "x"), 1, 4), (("",  good), 0, 0),
                                 ((good, "look 1", good), 1, 2), ((good + "\r", good), 0, 3)):
            with self.assertRaises(BadText) as told:
                read_deeds("\n".join(rows))
            self.assertEqual((told.exception.line, told.exception.word), (line, word))


if __name__ == "__main__":
    unittest.main()
