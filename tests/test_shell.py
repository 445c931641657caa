"""[49]: scripts."""

import unittest
from random import Random

from moonfall.dooms import doom_for, shows_doom
from moonfall.looks import fewest_looks
from moonfall.moontexts import belief_of, belief_text, deed_text, picture_of, read_deed, rows_of
from moonfall.plans import plan_for, shows_plan
from moonfall.regions import sure_standings
from moonfall.shell import run_script
from moonfall.texterrors import BadText
from moonfall.values import least_fuel
from plain import NEVER
from plaincraft import cases, look_cases
from test_values import GOALS

CRAFT = ("crater 0 0 1", "camera 3 1 0 0 0", "area -1 2 0 0", "land 1 - 0,0", "look 1 0 0,0", "step 1 -1,0 0,0")
BOTH = "0,-1,0;0,2,0"


def told_by(craft):
    """The lines that tell a craft: those that must keep their order, and the others."""
    sky = craft.skies[0]
    cameras = [" ".join(map(str, ("camera", one.camera.width, one.camera.height, one.camera.error, one.camera.false,
                                  one.camera.lost))) for one in craft.skies]
    others = ["crater {} {} {}".format(*crater) for crater in sky.ground.craters]
    last = ["turns " + " ".join(map(str, sky.turns)), "area {} {} {} {}".format(*sky.area), "foot {} {}".format(*craft.foot),
            f"room {craft.room}"]
    return cameras, [deed_text(deed) for deed in craft.deeds], others, last


def shuffled(dice, craft):
    """These in any order."""
    cameras, deeds, others, last = told_by(craft)
    lines = others + [word for word in last if dice.random() < 0.3]
    dice.shuffle(lines)
    for rows in (cameras, deeds):
        for at, row in zip(sorted(dice.randint(0, len(lines)) for _ in rows), range(len(rows))):
            lines.insert(at + row, rows[row])
    # Of several the last one counts: what was told ahead doesn't matter.
    wrong = dice.sample(["turns 3", "area 5 6 7 8", "foot 1 -999", "room 77"], 2)
    return wrong + lines + last


def answers_plain(craft, question):
    """What the package's own functions tell."""
    word, goal, *rest = question.split(" ")
    fuel = int(rest[-1])
    if word == "where":
        return ["where " + belief_text(sure_standings(craft, goal, fuel, NEVER))]
    asked = (craft, goal, belief_of(rest[0]), fuel, NEVER)
    if word in ("least", "looks"):
        number = least_fuel(*asked) if word == "least" else fewest_looks(*asked)
        return [f"{word} none" if number is None else f"{word} {number}"]
    plan = plan_for(*asked)
    if plan is not None:
        return ["sure"] + [f"row {belief_text(belief)} {fuel} {deed_text(craft.deeds[number])}" for belief, fuel, number in plan]
    lines = ["not sure"]
    for belief, fuel, answers in doom_for(*asked):
        lines.append(f"row {belief_text(belief)} {fuel}")
        for answer in answers:
            lines[-1] += " " + answer[0]
            if len(answer) > 1:
                rows = answer[1] if answer[0] == "picture" else answer[1:]
                lines[-1] += ":" + (";".join(",".join(map(str, row)) for row in rows) or "-")
    return lines


class Scripts(unittest.TestCase):
    def script(self, *questions):
        return run_script("\n".join((*CRAFT, "go", *questions)))

    def test_example(self):
        self.assertEqual(self.script(f"least land {BOTH} 60", f"least land {BOTH} 4", f"looks keep {BOTH} 5",
                                     f"looks keep {BOTH} 4", "where land 3", "where keep 0"),
                         ["least 5", "least none", "looks 1", "looks none", "where 0,0,0;0,1,0;0,2,0", "where -"])
        self.assertEqual(self.script(f"sure land {BOTH} 5"),
                         ["sure", "row 0,-1,0 4 step 1 -1,0 0,0", "row 0,-1,0;0,2,0 5 look 1 0 0,0",
                          "row 0,0,0 3 step 1 -1,0 0,0", "row 0,1,0 2 step 1 -1,0 0,0", "row 0,2,0 1 land 1 - 0,0"])
        self.assertEqual(self.script(f"sure land {BOTH} 4"),
                         ["not sure", "row 0,-1,0 3 bad:0,-1,0;0,-1,0 picture:- next",
                          "row 0,-1,0;0,2,0 4 bad:0,-1,0;0,-1,0 picture:- bad:0,2,0;0,3,0",
                          "row 0,0,0 2 bad:0,0,0;0,0,0 picture:0,0,1 next", "row 0,1,0 1 bad:0,1,0;0,1,0 picture:1,0,1 next",
                          "row 0,2,0 0 fuel fuel fuel"])

    def test_without_questions(self):
        self.assertEqual(self.script(), [])

    def test_each_question(self):
        words = {}
        small = [(dice, craft, belief, fuel) for dice, craft, belief, fuel in cases(120, 1010000)]
        more = [(dice, craft, belief, dice.randint(2, 12)) for dice, craft, belief in look_cases(80, 1010000)]
        for dice, craft, belief, fuel in small + more:
            questions = [f"{word} {goal} {belief_text(belief)} {fuel}" for word in ("least", "looks", "sure") for goal in GOALS]
            questions += [f"where {goal} {dice.randint(0, 6)}" for goal in GOALS]
            dice.shuffle(questions)
            right = [line for question in questions for line in answers_plain(craft, question)]
            text = "\n".join([*shuffled(dice, craft), "go", *questions])
            told = run_script(text)
            self.assertIs(type(told), list)
            self.assertEqual(told, right)
            self.assertEqual(run_script(text), told)
            for line in told:
                words[line.split(" ")[0]] = words.get(line.split(" ")[0], 0) + 1
        self.assertGreater(min(words[word] for word in ("sure", "not", "least", "looks", "where", "row")), 80)

    def test_rows_can_be_walked(self):
        # What is told of plans and dooms is all of them.
        plans = dooms = 0
        for dice, craft, belief in look_cases(120, 1020000):
            fuel = dice.randint(3, 12)
            text = "\n".join([*shuffled(dice, craft), "go", f"sure land {belief_text(belief)} {fuel}"])
            first, *lines = run_script(text)
            rows = [line.split(" ") for line in lines]
            self.assertEqual({words[0] for words in rows}, {"row"})
            if first == "sure":
                plan = tuple((belief_of(words[1]), int(words[2]), craft.deeds.index(read_deed(" ".join(words[3:]), 0)))
                             for words in rows)
                self.assertIs(shows_plan(craft, "land", belief, fuel, plan, NEVER), True)
                plans += 1
            else:
                doom = tuple((belief_of(words[1]), int(words[2]), tuple(map(self.answer_of, words[3:]))) for words in rows)
                self.assertIs(shows_doom(craft, "land", belief, fuel, doom), True)
                dooms += 1
        self.assertGreater(min(plans, dooms), 15)

    def answer_of(self, word):
        name, _, rest = word.partition(":")
        if name == "picture":
            return name, picture_of(rest)
        return (name, *rows_of(rest, 3)) if name == "bad" else (name,)

    def test_deeds_that_are_none(self):
        self.assertEqual(run_script("camera 1 1 0 0 0\ngo\nsure keep 0,0,0 60\nleast keep 0,0,0 60\nwhere keep 60"),
                         ["not sure", "row 0,0,0 60", "least none", "where -"])

    def test_at_first(self):
        # One turn, 0; an area, a foot and a room of 0s; no crater.
        text = "camera 3 1 0 0 0\nland 2 - 0,0\n{}go\nwhere land 5\nleast land 0,0,0 60"
        self.assertEqual(run_script(text.format("")), ["where 0,0,0", "least 2"])
        self.assertEqual(run_script(text.format("turns 0 2\narea 0 1 0 0\n")),
                         ["where 0,0,0;0,1,0;2,0,0;2,1,0", "least 2"])
        self.assertEqual(run_script(text.format("crater 3 0 1\n")), ["where 0,0,0", "least 2"])
        self.assertEqual(run_script(text.format("crater 2 0 1\n")), ["where 0,0,0", "least 2"])
        self.assertEqual(run_script(text.format("crater 0 -2 1\n")), ["where 0,0,0", "least 2"])
        self.assertEqual(run_script(text.format("crater 3 0 1\nroom 2\n")), ["where -", "least none"])
        self.assertEqual(run_script(text.format("crater 3 0 1\nroom 2\nfoot -1 0\n")), ["where 0,0,0", "least 2"])

    def test_lines_told_twice(self):
        text = "camera 3 1 0 0 0\nland 2 - 0,0\ncrater 3 0 1\n{}go\nleast land 0,0,0 60"
        for lines, right in (("room 2\nroom 0\n", "least 2"), ("room 0\nroom 2\n", "least none"),
                             ("foot 3 0\nfoot 0 0\n", "least 2"), ("foot 0 0\nfoot 3 0\n", "least none"),
                             ("area 5 6 0 0\narea 0 0 0 0\n", "least 2"), ("turns 1\nturns 0\n", "least 2"),
                             ("turns 5\nturns 0\n", "least 2"), ("room 5000\nroom 0\n", "least 2")):
            self.assertEqual(run_script(text.format(lines)), [right])
        # Craters, cameras and deeds are as many as they are told.
        self.assertEqual(run_script(text.format("land 1 - 0,0\ncrater 3 0 1\ncamera 1 1 0 0 0\nlook 1 1 0,0\n")), ["least 1"])

    def test_much(self):
        # Nothing is let go.
        text = "\n".join(["crater -4 -5 1", "crater 0 -1 1", "crater 3 5 1", "camera 6 6 1 0 1", "turns 0 1 2 3", "area -3 3 -3 3",
                          "foot 3 3", "look 1 0 0,0", "land 1 - 0,0", "step 1 1,0 0,0", "step 1 0,1 0,0", "away 9 - 0,0", "go",
                          "where keep 9", "looks keep 0,0,0;0,1,0;1,0,0;2,0,0 20"])
        told = run_script(text)
        self.assertEqual(told[0].count(";"), 4 * 49 - 1)
        self.assertEqual(told[1], "looks 0")


class Wrong(unittest.TestCase):
    def bad(self, text, line, word):
        with self.assertRaises(BadText) as told:
            run_script(text)
        self.assertEqual((told.exception.line, told.exception.word), (line, word), text)

    def told(self, row, word, at=2):
        """A line among those that tell a craft is wrong, and others behind it are, too."""
        rows = [*CRAFT[:at], row, *CRAFT[at:]]
        self.bad("\n".join([*rows, "go"]), at, word)
        self.bad("\n".join([*rows, "hover", "go", "x"]), at, word)
        self.bad("\n".join(rows), at, word)

    def asked(self, row, word):
        """So is one of the questions."""
        good = f"least land {BOTH} 5"
        self.bad("\n".join([*CRAFT, "go", row]), 7, word)
        self.bad("\n".join([*CRAFT, "go", good, row, good, "x"]), 8, word)

    def test_first_words(self):
        for row in ("", " ", "hover", "craters 0 0 1", "Crater 0 0 1", " crater 0 0 1", "crater\t0 0 1", "#", "least land 0,0,0 5",
                    "where land 5", "Go", "goal", "go\r", "cameras 3 1 0 0 0", "turn1", "sky"):
            self.told(row, 0)

    def test_numbers(self):
        for name, many in (("crater", 3), ("camera", 5), ("area", 4), ("foot", 2), ("room", 1), ("turns", 2)):
            numbers = ["1"] * many
            for at in range(many):
                for word in ("x", "", "01", "+1", "-0", "1.0", "12345678", "\u0661", "1,0", "-"):
                    self.told(" ".join([name, *numbers[:at], word, *numbers[at + 1:]]), at + 1)
                if name != "turns":
                    self.told(" ".join([name, *numbers[:at]]), at + 1)
            if name != "turns":
                for more in ("1", "x", "", "1 1", " "):
                    self.told(" ".join([name, *numbers, more]), many + 1)
        # The first wrong word, not the one too much.
        self.told("room x 1", 1)
        self.told("crater 0 x 1 1", 2)
        self.told("turns", 1)
        self.told("turns ", 1)
        self.told("turns 0 1 ", 3)
        self.told("turns  0", 1)
        self.told("go 1", 1)
        self.told("go ", 1)
        self.told("go go", 1)

    def test_cameras(self):
        for numbers in ("0 1 0 0 0", "1 0 0 0 0", "1001 1 0 0 0", "1 1001 0 0 0", "1 1 -1 0 0", "1 1 101 0 0", "1 1 0 -1 0",
                        "1 1 0 101 0", "1 1 0 0 -1", "1 1 0 0 101"):
            self.bad("\n".join([*CRAFT, "camera " + numbers, "go"]), 6, 1)
            self.bad("\n".join(["camera " + numbers, *CRAFT]), 0, 1)
        # Its words first.
        self.bad("camera 0 1 0 0 x\ngo", 0, 5)
        self.bad("camera 0 1 0 0\ngo", 0, 5)
        self.bad("camera 0 1 0 0 0 0\ngo", 0, 6)

    def test_deeds(self):
        for row, word in (("land", 1), ("land 0 - 0,0", 1), ("land 1 0 0,0", 2), ("land 1 - 0,0;0,0", 3), ("land 1 - 0,0 x", 4),
                          ("land x x x x", 4), ("step 1 1,0", 3), ("turn 1 4 0,0", 2), ("look 1 1001 0,0", 2), ("away 1 - 1,0", 3),
                          ("step 1 0,0 1,0;0,0", 3), ("land  1 - 0,0", 4)):
            self.told(row, word)

    def test_no_craft_together(self):
        for row in ("crater 0 0 0", "crater 0 0 100", "crater 1000001 0 1", "crater 0 -1000001 1", "turns 4", "turns -1",
                    "turns 1 0", "turns 0 0", "turns 0 1 2 3 4", "area 1 0 0 0", "area 0 0 1 0", "area 0 1000001 0 0",
                    "area 0 200 0 200", "foot 1001 0", "foot 0 -1001", "room -1", "room 1001", "look 1 1 0,0",
                    "\n".join(["crater 0 0 1"] * 100)):
            many = len(CRAFT) + row.count("\n") + 1
            self.bad("\n".join([*CRAFT, row, "go"]), many, 0)
            self.bad("\n".join([*CRAFT, row, "go", "x", "y"]), many, 0)
            self.bad("\n".join([row, *CRAFT]), many, 0)
            # A later line's wrong word comes first.
            self.bad("\n".join([*CRAFT, row, "room x", "go"]), many, 1)
        self.bad("go", 0, 0)
        self.bad("\n".join([CRAFT[0], *CRAFT[2:], "go"]), 5, 0)
        self.bad("room 3\ngo\nx", 1, 0)
        # With another camera there may be such a look.
        self.assertEqual(run_script("\n".join([*CRAFT, "look 1 1 0,0", "camera 1 1 0 0 0", "go"])), [])
        self.assertEqual(run_script("\n".join([*CRAFT, *["crater 0 0 1"] * 99, "go"])), [])

    def test_without_go(self):
        self.bad("\n".join(CRAFT), 6, 0)
        self.bad("", 0, 0)
        self.bad("room 1", 1, 0)
        self.bad("\n".join([*CRAFT, f"least land {BOTH} 5"]), 6, 0)
        self.bad("\n".join(CRAFT) + "\n", 6, 0)

    def test_a_line_feed_at_the_end(self):
        self.bad("\n".join([*CRAFT, "go", ""]), 7, 0)
        self.bad("\n".join([*CRAFT, "go", f"least land {BOTH} 5", ""]), 8, 0)
        self.bad("\n" + "\n".join([*CRAFT, "go"]), 0, 0)

    def test_questions(self):
        for row in ("", " ", "hover land 0,0,0 5", "Least land 0,0,0 5", "go", "room 1", "least,land", " least land 0,0,0 5",
                    "land 1 - 0,0", "crater 0 0 1", "none"):
            self.asked(row, 0)
        for word in ("least", "looks", "sure"):
            for rest, at in (("", 1), (" ", 1), (" hover 0,0,0 5", 1), (" Land 0,0,0 5", 1), (" landing", 1), ("  land 0,0,0 5", 1),
                             (" land", 2), (" land ", 2), (" keep x 5", 2), (" land - 5", 2), (" land 0,0 5", 2),
                             (" land 0,2,0;0,-1,0 5", 2), (" land 0,2,0;0,2,0 5", 2), (" land 0,3,0 5", 2), (" land 1,0,0 5", 2),
                             (" land 0,0,0;0,0,1 5", 2), (" land  5", 2), (" land 0,0,0", 3), (" land 0,0,0 ", 3),
                             (" land 0,0,0 x", 3), (" land 0,0,0 61", 3), (" land 0,0,0 -1", 3), (" land 0,0,0 05", 3),
                             (" land 0,0,0 5 5", 4), (" land 0,0,0 5 ", 4), (" land 0,0,0 5 x y", 4), (" hover x x x", 1),
                             (" land x x x", 2), (" land 0,0,0 x x", 3), (" land 5", 2)):
                self.asked(word + rest, at)
        for rest, at in (("", 1), (" ", 1), (" hover 5", 1), (" land", 2), (" land ", 2), (" land x", 2), (" land 61", 2),
                         (" land -1", 2), (" land 0,0,0 5", 2), (" keep 5 5", 3), (" keep 5 ", 3), (" hover x x", 1), (" keep -0", 2)):
            self.asked("where" + rest, at)
        for fuel in (0, 60):
            self.assertEqual(len(run_script("\n".join([*CRAFT, "go", f"least land 0,0,0 {fuel}", f"where keep {fuel}"]))), 2)

    def test_which_comes_first(self):
        # Of the lines ahead of go the first wrong word; then whether they are a craft; then questions.
        self.bad("room x\nroom y\ngo\nz", 0, 1)
        self.bad("room 5000\nroom y\ngo\nz", 1, 1)
        self.bad("\n".join([*CRAFT, "room 5000", "go", "z"]), 7, 0)
        self.bad("\n".join([*CRAFT, "go", "sure land", "least"]), 7, 2)
        self.bad("\n".join([*CRAFT, "go", f"least land {BOTH} 5", "go"]), 8, 0)

    def test_any_text(self):
        # A script with any words changed is told wrong at some word, or answered.
        dice = Random(5)
        words = ["crater", "camera", "turns", "area", "foot", "room", "go", "least", "where", "land", "keep", "0", "1", "-1", "61",
                 "x", "", "0,0", "0,0,0", "-", "step", BOTH]
        wrong = 0
        for _ in range(1500):
            rows = [row.split(" ") for row in (*CRAFT, "go", f"least land {BOTH} 5", "where keep 3")]
            for _ in range(dice.randint(1, 2)):
                row = dice.choice(rows)
                row[dice.randrange(len(row))] = dice.choice(words)
            text = "\n".join(" ".join(row) for row in rows)
            try:
                self.assertLess(len(run_script(text)), 3)
            except BadText as e:
                self.assertTrue(0 <= e.line <= len(rows) and 0 <= e.word)
                wrong += 1
        self.assertGreater(wrong, 1000)


if __name__ == "__main__":
    unittest.main()
