"""[44], [45]: engines, logs, crews."""

import re
import unittest
from random import Random

from moonfall.beliefs import is_end
from moonfall.crafts import Craft
from moonfall.crews import Crew, Engines, crew_of, deed_line, picture_line
from moonfall.deeds import away, land, look, step
from moonfall.errors import BadPicture
from moonfall.flights import Flight
from moonfall.landererrors import BadBelief, BadCut, BadFlight
from moonfall.landers import Lander
from plain import NEVER, random_picture
from plaincraft import STILL, cases, look_cases
from test_landers import state_of
from test_values import BOTH, example

SEEN = ((2, 0, 1),)
NUMBER = r"(0|-?[1-9][0-9]{0,6})"


class EnginesTests(unittest.TestCase):
    def test_commands_one_after_another(self):
        engines = Engines()
        self.assertEqual(engines.rows, [])
        rows = [(1, SEEN), (2, None), (1, ()), (0, None)]
        for number, (deed, picture) in enumerate(rows):
            self.assertIs(engines.is_new(number), True)
            engines.put(deed, picture)
            self.assertEqual(engines.rows, rows[:number + 1])
            for old in range(number + 1):
                # Told again and again.
                self.assertIs(engines.is_new(old), False)
                self.assertEqual(engines.told(old), rows[old])
                self.assertEqual(engines.told(old), rows[old])
        self.assertEqual(engines.rows, rows)
        self.assertEqual(Engines().rows, [])

    def test_beyond_the_next_one(self):
        for many in range(3):
            engines = Engines()
            for _ in range(many):
                engines.put(1, None)
            for number in (many + 1, many + 2, 10 ** 9, -1, -2, True, False, None, "0", 0.0, (0,), [0]):
                with self.assertRaises(BadFlight) as told:
                    engines.is_new(number)
                self.assertIs(told.exception.thing, number)
            for number in (many, many + 1, 10 ** 9, -1, -2, True, False, None, "0", 0.0, (0,), [0]):
                with self.assertRaises(BadFlight) as told:
                    engines.told(number)
                self.assertIs(told.exception.thing, number)
            self.assertEqual(len(engines.rows), many)


class Lines(unittest.TestCase):
    def test_lines(self):
        self.assertEqual(deed_line(0, 1), "0 do 1 0")
        self.assertEqual(deed_line(12, 30), "12 do 30 12")
        self.assertEqual(picture_line(0, SEEN), "0 saw 2,0,1 0")
        self.assertEqual(picture_line(7, ((2, 0, 1), (11, 3, 99))), "7 saw 2,0,1;11,3,99 7")
        self.assertEqual(picture_line(59, ()), "59 saw - 59")


def read_plain(craft, belief, fuel, text):
    """[45] by its words: the lander, the numbers of the deeds, the lines that were done."""
    lander, rows, done = Lander(craft, belief, fuel, NEVER), [], ""
    for line in re.findall("[^\n]*\n", text):
        deed = re.fullmatch(f"{NUMBER} do {NUMBER} \\1\n", line)
        saw = re.fullmatch(f"{NUMBER} saw (-|{NUMBER},{NUMBER},{NUMBER}(;{NUMBER},{NUMBER},{NUMBER})*) \\1\n", line)
        try:
            if deed and int(deed[1]) == len(rows):
                lander.do(int(deed[2]))
                rows.append(int(deed[2]))
            elif saw and int(saw[1]) == len(rows) - 1 and rows:
                lander.see(() if saw[2] == "-" else tuple(tuple(map(int, each.split(","))) for each in saw[2].split(";")))
            else:
                break
        except (BadFlight, BadPicture):
            break
        done += line
    return lander, rows, done


class Logs(unittest.TestCase):
    def check(self, craft, belief, fuel, text):
        lander, rows, done = read_plain(craft, belief, fuel, text)
        fresh = Lander(craft, belief, fuel, NEVER)
        crew = Crew(fresh, text)
        self.assertIs(crew.lander, fresh)
        for each in (crew, crew_of(craft, belief, fuel, NEVER, text)):
            self.assertEqual(state_of(each.lander), state_of(lander), text)
            self.assertEqual((each.rows, each.text, each.loose, each.is_open), (rows, done, "", len(rows) > 0), text)
            self.assertIs(type(each.is_open), bool)
            self.assertEqual(each.command(), (len(rows) - 1, rows[-1]) if rows else None)
        return len(rows)

    def log_of(self, dice, craft, lander):
        """A log of anything that the lander can do."""
        text, number = "", 0
        for _ in range(dice.randint(0, 6)):
            deed = dice.randrange(len(craft.deeds))
            if is_end(craft.deeds[deed]) and dice.random() < 0.8:
                continue
            try:
                lander.do(deed)
            except BadFlight:
                continue
            text += deed_line(number, deed) + "\n"
            for _ in range(9):
                if lander.looking is not None:
                    picture = random_picture(craft.skies[craft.deeds[deed].aim], dice)
                    try:
                        lander.see(picture)
                        text += picture_line(number, picture) + "\n"
                    except BadFlight:
                        pass
            number += 1
        return text

    def test_any_text(self):
        told = {}
        for dice, craft, belief, fuel in cases(250, 910000):
            text = self.log_of(dice, craft, Lander(craft, belief, fuel, NEVER))
            for cut in range(len(text) + 1):
                self.check(craft, belief, fuel, text[:cut])
            lines = text.splitlines(keepends=True)
            for _ in range(20):
                rows = list(lines)
                for _ in range(dice.randint(1, 2)):
                    at = dice.randint(0, len(rows))
                    other = dice.choice(rows or ["0 do 0 0\n"])
                    word = other.replace("do", dice.choice(("do", "saw", "Do", "did"))).replace(
                        " ", dice.choice((" ", " ", "  ", "\t", "")), dice.randint(0, 3))
                    picture = random_picture(craft.skies[0], dice)
                    rows[at:at + dice.randint(0, 1)] = [dice.choice((
                        other, word, "\n", "x\n", "0 do 1 0\r\n", f"{at} do {dice.randint(-1, 5)} {at}\n",
                        picture_line(dice.randint(0, 3), picture) + "\n", picture_line(at, picture) + "\n",
                        f"{at} saw 1,1,1;{dice.randint(0, 9)},0 {at}\n", f"0{at} do 0 0{at}\n"))]
                many = self.check(craft, belief, fuel, "".join(rows))
                told[many] = told.get(many, 0) + 1
        self.assertGreater(min(told.get(many, 0) for many in (0, 1, 2, 3)), 50)

    def test_lines_that_are_none(self):
        begin = "0 do 1 0\n0 saw - 0\n1 do 2 1\n"
        for line in ("", " ", "2", "2 do 2", "2 do 2 2 ", " 2 do 2 2", "2  do 2 2", "2 do 2 2 2", "2 do 02 2", "02 do 2 02",
                     "2 do 2 02", "02 do 2 2", "2 do 2 3", "3 do 2 3", "1 do 2 1", "0 do 2 0", "2 DO 2 2", "2 do +2 2",
                     "2 do -0 2", "2 do -1 2", "2 do 3 2", "2 do x 2", "2 do  2", "2,do,2,2", "2 do 2 2\r", "2 saw - 2",
                     "1 saw - 1", "2 do 2.0 2", "2 do 00000002 2", "\u0662 do 2 \u0662", "2 do \u0662 2", "2 do \u00b2 2",
                     "2\tdo\t2\t2", "2 do 2 2\x0b", "2 do 2 2\u2028", "2 done 2 2", "-1 saw - -1"):
            for rest in ("", "2 do 2 2\n"):
                crew = crew_of(example(), BOTH, 9, NEVER, begin + line + "\n" + rest)
                self.assertEqual((crew.rows, crew.text), ([1, 2], begin), line)
        self.assertEqual(crew_of(example(), BOTH, 9, NEVER, begin + "2 do 2 2\n").rows, [1, 2, 2])
        # A line that isn't ended is none.
        self.assertEqual(crew_of(example(), BOTH, 9, NEVER, begin + "2 do 2 2").rows, [1, 2])

    def test_pictures_that_are_none(self):
        begin = "0 do 1 0\n"
        for line in ("0 seen - 0", "0 SAW - 0", "0 do - 0", "0 saw - 1", "0 saw - 0 ", "0  saw - 0", "0 saw - 00", "0 saw -"):
            crew = crew_of(example(), BOTH, 9, NEVER, f"{begin}{line}\n")
            self.assertEqual((crew.rows, crew.text, crew.lander.looking), ([1], begin, 1), line)
        for word in ("", "--", "-1", "2,0", "2,0,1,0", "2,0,1;", ";2,0,1", "2,0,1;2,0", "2,0,01", "2,0,1 ", "2;0;1", "None",
                     "2,0,0", "3,0,1", "2,0,100", "2,0,2", "0,0,1", "2,0,1;2,0,1", "-2,0,1", "2,0,x", "(2,0,1)"):
            crew = crew_of(example(), BOTH, 9, NEVER, f"{begin}0 saw {word} 0\n1 do 0 1\n")
            self.assertEqual((crew.rows, crew.text, crew.lander.looking), ([1], begin, 1), word)
        for word, right in (("-", BOTH[:1]), ("2,0,1", BOTH[1:])):
            crew = crew_of(example(), BOTH, 9, NEVER, f"{begin}0 saw {word} 0\n")
            self.assertEqual((crew.lander.belief, crew.lander.looking), (right, None))
            # A picture that was seen isn't seen again.
            again = crew_of(example(), BOTH, 9, NEVER, f"{begin}0 saw {word} 0\n0 saw {word} 0\n")
            self.assertEqual((again.rows, again.text), ([1], crew.text))

    def test_fuel_and_ends(self):
        self.assertEqual(crew_of(example(), BOTH, 2, NEVER, "0 do 1 0\n0 saw - 0\n1 do 2 1\n2 do 2 2\n").rows, [1, 2])
        self.assertEqual(crew_of(example(), BOTH, 9, NEVER, "0 do 0 0\n1 do 1 1\n").rows, [0])
        crew = crew_of(example(), BOTH, 9, NEVER, "0 do 1 0\n1 do 2 1\n")
        self.assertEqual((crew.rows, crew.lander.looking), ([1], 1))

    def test_start(self):
        for belief in ((), [(0, 0, 0)], BOTH[::-1]):
            with self.assertRaises(BadBelief) as told:
                crew_of(example(), belief, -1, 0, "")
            self.assertIs(told.exception.belief, belief)
        with self.assertRaises(BadFlight) as told:
            crew_of(example(), BOTH, 61, 0, "")
        self.assertEqual(told.exception.thing, 61)


class Crews(unittest.TestCase):
    def fields(self, crew):
        return list(crew.rows), crew.text, crew.loose, crew.is_open, state_of(crew.lander)

    def test_one_flight(self):
        crew = crew_of(example(), BOTH, 6, NEVER, "")
        self.assertEqual((crew.rows, crew.text, crew.loose, crew.is_open, crew.command()), ([], "", "", False, None))
        self.assertEqual(crew.decide(), (0, 1))
        self.assertEqual((crew.rows, crew.text, crew.loose, crew.is_open), ([1], "", "0 do 1 0\n", True))
        self.assertEqual((crew.lander.fuel, crew.lander.looking), (5, 1))
        # It isn't settled yet, so it isn't sent.
        self.assertIsNone(crew.command())
        before = self.fields(crew)
        self.assertIsNone(crew.decide())
        self.assertEqual(self.fields(crew), before)
        crew.sync()
        self.assertEqual((crew.text, crew.loose, crew.command()), ("0 do 1 0\n", "", (0, 1)))
        self.assertEqual(crew.command(), (0, 1))
        crew.hear(0, SEEN)
        self.assertEqual((crew.text, crew.loose, crew.is_open), ("0 do 1 0\n", "0 saw 2,0,1 0\n", False))
        self.assertEqual(crew.lander.belief, BOTH[1:])
        self.assertIsNone(crew.command())
        self.assertEqual(crew.decide(), (1, 0))
        self.assertEqual(crew.loose, "0 saw 2,0,1 0\n1 do 0 1\n")
        crew.sync()
        self.assertEqual(crew.command(), (1, 0))
        crew.hear(1, None)
        self.assertEqual((crew.text, crew.loose, crew.is_open), ("0 do 1 0\n0 saw 2,0,1 0\n1 do 0 1\n", "", False))
        # There is no choice any more.
        before = self.fields(crew)
        self.assertIsNone(crew.decide())
        self.assertIsNone(crew.command())
        self.assertEqual(self.fields(crew), before)
        self.assertEqual(crew.lander.stand, "land")

    def test_no_choice(self):
        crew = crew_of(example(), BOTH, 4, NEVER, "")
        before = self.fields(crew)
        self.assertIsNone(crew.decide())
        self.assertEqual(self.fields(crew), before)

    def test_what_is_not_heard(self):
        crew = crew_of(example(), BOTH, 6, NEVER, "")
        before = self.fields(crew)
        for number in (0, -1, 1, None):
            crew.hear(number, SEEN)
        self.assertEqual(self.fields(crew), before)
        crew.decide()
        for is_settled in (False, True):
            if is_settled:
                crew.sync()
            before = self.fields(crew)
            for number in (-1, 1, 2, None, "0", False):
                crew.hear(number, SEEN)
                self.assertEqual(self.fields(crew), before)
            for picture, error in ((None, BadPicture), ([], BadPicture), (((9, 0, 1),), BadPicture),
                                   (((0, 0, 1),), BadFlight), (((2, 0, 2),), BadFlight)):
                with self.assertRaises(error) as told:
                    crew.hear(0, picture)
                if error is BadFlight:
                    self.assertIs(told.exception.thing, picture)
                self.assertEqual(self.fields(crew), before)
        crew.hear(0, SEEN)
        before = self.fields(crew)
        # Heard twice: none is open any more.
        for picture in (SEEN, (), None):
            crew.hear(0, picture)
            self.assertEqual(self.fields(crew), before)

    def test_heard_ahead_of_being_settled(self):
        crew = crew_of(example(), BOTH, 6, NEVER, "")
        crew.decide()
        crew.hear(0, SEEN)
        self.assertEqual((crew.text, crew.loose, crew.is_open), ("", "0 do 1 0\n0 saw 2,0,1 0\n", False))
        crew.sync()
        self.assertEqual((crew.text, crew.loose, crew.command()), ("0 do 1 0\n0 saw 2,0,1 0\n", "", None))

    def test_open_again_behind_a_fall(self):
        crew = crew_of(example(), BOTH, 6, NEVER, "0 do 1 0\n0 saw 2,0,1 0\n")
        self.assertEqual((crew.is_open, crew.command(), crew.decide()), (True, (0, 1), None))
        # Its picture is logged: whatever is told, it isn't seen again.
        for picture in (SEEN, (), None):
            again = crew_of(example(), BOTH, 6, NEVER, crew.text)
            again.hear(0, picture)
            self.assertEqual((again.text, again.loose, again.is_open), (crew.text, "", False))
            self.assertEqual(again.lander.belief, BOTH[1:])
            self.assertEqual(again.decide(), (1, 0))
        waiting = crew_of(example(), BOTH, 6, NEVER, "0 do 1 0\n")
        self.assertEqual((waiting.is_open, waiting.command(), waiting.lander.looking), (True, (0, 1), 1))
        waiting.hear(0, ())
        self.assertEqual((waiting.loose, waiting.lander.belief), ("0 saw - 0\n", BOTH[:1]))
        stepping = crew_of(example(), BOTH[:1], 6, NEVER, "0 do 2 0\n1 do 2 1\n")
        self.assertEqual((stepping.is_open, stepping.command()), (True, (1, 2)))
        stepping.hear(1, None)
        self.assertEqual((stepping.loose, stepping.is_open, stepping.decide()), ("", False, (2, 2)))

    def test_fallen(self):
        crew = crew_of(example(), BOTH, 6, NEVER, "")
        crew.decide()
        crew.sync()
        crew.hear(0, SEEN)
        crew.decide()
        loose = "0 saw 2,0,1 0\n1 do 0 1\n"
        self.assertEqual(crew.loose, loose)
        before = self.fields(crew)
        for cut in range(len(loose) + 1):
            self.assertEqual(crew.fallen(cut), "0 do 1 0\n" + loose[:cut])
        for cut in (-1, len(loose) + 1, 10 ** 9, True, False, None, "0", 1.0, (0,)):
            with self.assertRaises(BadCut) as told:
                crew.fallen(cut)
            self.assertIs(told.exception.place, cut)
        self.assertEqual(self.fields(crew), before)
        crew.sync()
        self.assertEqual(crew.fallen(0), crew.text)
        with self.assertRaises(BadCut):
            crew.fallen(1)

    def fall_everywhere(self, craft, belief, fuel, crew):
        """At each cut the crew that comes up believes just what is so by its log."""
        for cut in range(len(crew.loose) + 1):
            text = crew.fallen(cut)
            lander, rows, done = read_plain(craft, belief, fuel, text)
            again = crew_of(craft, belief, fuel, NEVER, text)
            self.assertEqual((state_of(again.lander), again.rows, again.text), (state_of(lander), rows, done))
            self.assertTrue(done.startswith(crew.text))

    def serve(self, dice, craft, crew, engines, flight):
        """Send what is settled; the engines carry it out if it is new, and tell."""
        command = crew.command()
        if command is None:
            return
        number, deed = command
        if engines.is_new(number):
            flight.do(deed, dice.choice(flight.ends(deed)))
            picture = None
            if craft.deeds[deed].kind == "look":
                sky = craft.skies[craft.deeds[deed].aim]
                picture = random_picture(sky, dice)
                while not flight.can_show(deed, picture):
                    picture = random_picture(sky, dice)
            engines.put(deed, picture)
        if dice.random() < 0.8:
            crew.hear(number, engines.told(number)[1])

    def test_flights_with_falls(self):
        told = {}
        falls = 0
        for dice, craft, belief in look_cases(120, 920000):
            fuel = dice.randint(6, 16)
            flight, engines = Flight(craft, dice.choice(belief), fuel), Engines()
            keep = Lander(craft, belief, fuel, NEVER).choice() is not None
            crew = crew_of(craft, belief, fuel, NEVER, "")
            for _ in range(90):
                which = dice.randrange(7)
                if which < 2:
                    crew.decide()
                elif which < 4:
                    crew.sync()
                elif which < 6:
                    self.serve(dice, craft, crew, engines, flight)
                else:
                    self.fall_everywhere(craft, belief, fuel, crew)
                    crew = crew_of(craft, belief, fuel, NEVER, crew.fallen(dice.randint(0, len(crew.loose))))
                    falls += 1
                # What was done is in the log, in its order; at most one command of it wasn't done yet.
                done = [deed for deed, _ in engines.rows]
                self.assertEqual(crew.rows[:len(done)], done)
                self.assertLessEqual(len(crew.rows), len(done) + 1)
                if crew.rows == done and flight.stand == "flying":
                    self.assertIn(flight.standing, crew.lander.belief)
                self.assertEqual(len(set(done)) > 0, flight.fuel < fuel)
                self.assertEqual(flight.fuel, fuel - sum(craft.deeds[deed].fuel for deed in done))
            while crew.is_open or crew.decide() is not None:
                crew.sync()
                self.serve(dice, craft, crew, engines, flight)
            told[flight.stand] = told.get(flight.stand, 0) + 1
            self.assertIs(flight.stand in ("landed", "away"), keep)
        self.assertGreater(falls, 500)
        self.assertGreater(min(told["landed"], told["away"]), 5)

    def test_whole_logs(self):
        # The crew that comes up by the whole log of a flight has done all of it.
        dice = Random(7)
        for _, craft, belief in look_cases(60, 930000):
            fuel = 12
            flight, engines = Flight(craft, dice.choice(belief), fuel), Engines()
            crew = crew_of(craft, belief, fuel, NEVER, "")
            while crew.is_open or crew.decide() is not None:
                crew.sync()
                self.serve(dice, craft, crew, engines, flight)
            crew.sync()
            again = crew_of(craft, belief, fuel, NEVER, crew.text)
            self.assertEqual((state_of(again.lander), again.rows, again.text),
                             (state_of(crew.lander), crew.rows, crew.text))
            self.assertEqual(crew.rows, [deed for deed, _ in engines.rows])
            # Each picture that was told is in the log.
            lines = [deed_line(k, deed) for k, (deed, _) in enumerate(engines.rows)]
            lines += [picture_line(k, picture) for k, (_, picture) in enumerate(engines.rows) if picture is not None]
            self.assertEqual(sorted(crew.text.splitlines()), sorted(lines))

    def test_away(self):
        craft = Craft(example().skies, (0, 0), 0, (away(2), look(1, 0), land(1, STILL), step(1, (-1, 0), STILL)))
        crew = crew_of(craft, BOTH, 2, NEVER, "")
        self.assertEqual(crew.decide(), (0, 0))
        self.assertEqual(crew.lander.stand, "away")
        crew.sync()
        crew.hear(0, None)
        self.assertIsNone(crew.decide())


if __name__ == "__main__":
    unittest.main()
