"""The interface: each name is defined in the file under which the document lists it, and takes what is listed."""

import ast
import importlib
import inspect
import re
import unittest
from pathlib import Path

from moonfall.crafts import Craft
from moonfall.crews import Crew, Engines
from moonfall.deeds import away
from moonfall.errors import MoonError
from moonfall.flights import Flight
from moonfall.grounds import Camera, Ground, Sky
from moonfall.landers import Lander
from moonfall.surveys import Survey

PACKAGE = Path(__file__).resolve().parent.parent / "moonfall"

ERRORS = {
    "errors": {"BadGround": "number", "BadCamera": "word", "BadSky": "word", "BadPicture": "number",
               "BadStanding": "standing"},
    "moreerrors": {"TooMany": "most"},
    "landererrors": {"BadDeed": "word", "BadCraft": "word", "BadBelief": "belief", "BadFlight": "thing", "BadCut": "place"},
    "texterrors": {"BadText": "line, word"},
}

FUNCTIONS = """
grounds: turned(x, y, turn)
fitting: fits(sky, picture, standing) who(sky, picture, standing) shows_fit(sky, picture, standing, pairs)
    against(sky, picture, standing) holds_against(sky, picture, standing, paper)
reading: plain_reading(sky, picture) reading(sky, picture) is_near(one, other, reach) spread(standings)
voting: votes_for(sky, picture, turn) voted_reading(sky, picture)
alike: are_alike(sky, one, other) apart(sky, one, other) holds_apart(sky, one, other, paper)
    picture_for(sky, one, other) is_blind(sky, standing) alike_to(sky, standing)
distances: slack_between(sky, one, other) nearest_pair(sky, reach) strength_of(sky, reach)
safeness: is_safe(sky, reach) confusion(sky, reach) with_slack(sky, slack) strength(sky, reach)
    with_craters(sky, more) beacons(sky, sites, reach) sure_standings(sky, reach) keeps_apart(sky, lot, reach)
    greatest_region(sky, reach, most)
sparing: with_ground(sky, craters) with_frame(sky, width, height) fewest_kept(sky, reach)
    frames_up_to(width, height) least_frame(sky, reach)
glances: is_move(thing) moved(standing, move) reading_by(sky, looks) tells_apart(sky, one, other, moves)
    confusion_by(sky, moves, reach) fewest_glances(sky, moves, reach)
answers: common_picture(sky, lot, most) answers(sky, belief, most)
refusals: refusal(sky, lot, most) shows_refusal(sky, lot, paper)
covers: cover(sky, belief, most) shows_cover(sky, belief, cover) free_lots(belief, cover, most)
mosaics: can_join(camera, one, other, motion) apart_by(camera, one, other, motion)
    holds_apart_by(camera, one, other, motion, paper) ground_for(camera, one, other, motion)
    motions_between(camera, one, other, turns, area)
surveys: grounds_for(survey, most) sure_sites(survey, most) possible_sites(survey, most)
pixels: bright_cells(rows, level) blobs(cells) middle(blob) size_by(many, steps)
    picture_of(camera, rows, level, steps)
doubtful: sure_cells(rows, level, slack) maybe_cells(rows, level, slack) sure_blobs(rows, level, slack)
    sure_points(rows, level, slack, steps) doubtful_blobs(rows, level, slack) most_spots(rows, level, slack, most)
rims: rim(radius) radius_of(x, y) votes(cells, radii) rims_in(cells, radii, missing) shared_cells(one, other)
    is_barred(one, others, missing)
deeds: step(fuel, aim, slips) turn(fuel, aim) look(fuel, aim) land(fuel, slips) away(fuel)
beliefs: ends_of(craft, standing, deed) behind(craft, belief, deed) is_kept(craft, belief, deed) is_end(deed)
    seen(craft, belief, deed, picture) outcomes(craft, belief, deed, most)
values: is_sure(craft, goal, belief, fuel, most) least_fuel(craft, goal, belief, fuel, most)
plans: covers(row, belief, fuel) plan_for(craft, goal, belief, fuel, most)
    shows_plan(craft, goal, belief, fuel, plan, most) deed_by(plan, belief, fuel)
dooms: doom_for(craft, goal, belief, fuel, most) shows_doom(craft, goal, belief, fuel, doom)
walking: papers_for(craft, plan, most) walks_plan(craft, goal, belief, fuel, plan, papers, most)
margins: worse(craft, word, more) margin(craft, goal, belief, fuel, word, most)
regions: sure_standings(craft, goal, fuel, most) greatest_beliefs(craft, goal, belief, fuel, most)
looks: fewest_looks(craft, goal, belief, fuel, most)
training: row_for(plan, belief, fuel) runs_to(craft, plan, belief, fuel, most) believed(craft, belief, run)
    fuel_of(craft, run)
crews: deed_line(number, deed) picture_line(number, picture) crew_of(craft, belief, fuel, most, text)
moontexts: number_of(word) picture_text(picture) picture_of(word) belief_text(belief) belief_of(word)
    deed_text(deed) read_deed(text, line) write_deeds(deeds) read_deeds(text)
drawings: draw_ground(ground, lows, highs) read_ground(text) is_clear(craft, cell)
    draw_clear(craft, lows, highs) draw_belief(craft, belief, lows, highs)
shell: run_script(text)
"""

CLASSES = """
grounds: Ground(craters) __eq__(other)
grounds: Camera(width, height, error, false, lost) __eq__(other) is_sure(x, y) is_maybe(x, y) check_picture(picture)
grounds: Sky(ground, camera, turns, area) __eq__(other) standings() is_standing(thing) check_standing(thing)
    place(crater, standing) places(standing) sure_craters(standing)
surveys: Survey(sites, camera, looks)
deeds: Deed(kind, fuel, aim, slips) __eq__(other)
crafts: Craft(skies, foot, room, deeds) __eq__(other) is_over(standing) is_safe(standing) cell_below(standing)
    stepped(standing, shift) swung(standing, quarters) check_belief(belief) check_start(belief, fuel)
landers: Lander(craft, belief, fuel, most) do(number) see(picture) choice()
flights: Flight(craft, standing, fuel) ends(number) do(number, end) can_show(number, picture)
crews: Engines() is_new(number) put(deed, picture) told(number)
crews: Crew(lander, text) decide() sync() command() hear(number, picture) fallen(cut)
"""


def listed(text):
    """Triples (module, name, parameters), class by class and function by function."""
    for line in re.sub(r"\n +", " ", text).strip().split("\n"):
        module, _, rest = line.partition(": ")
        yield module, re.findall(r"(\w+)\(([^)]*)\)", rest)


def parameters(function):
    return ", ".join(inspect.signature(function).parameters)


class Interface(unittest.TestCase):
    def defined(self, module):
        tree = ast.parse((PACKAGE / f"{module}.py").read_text())
        return {node.name: node for node in tree.body if isinstance(node, (ast.FunctionDef, ast.ClassDef))}

    def test_functions(self):
        for module, names in listed(FUNCTIONS):
            for name, told in names:
                self.assertIsInstance(self.defined(module).get(name), ast.FunctionDef, f"{module}.{name}")
                function = getattr(importlib.import_module(f"moonfall.{module}"), name)
                self.assertEqual(parameters(function), told, name)

    def test_classes(self):
        for module, names in listed(CLASSES):
            (name, told), *methods = names
            node = self.defined(module).get(name)
            self.assertIsInstance(node, ast.ClassDef, f"{module}.{name}")
            thing = getattr(importlib.import_module(f"moonfall.{module}"), name)
            self.assertEqual(parameters(thing), told, name)
            stand = {each.name for each in node.body if isinstance(each, ast.FunctionDef)}
            for method, its in methods:
                self.assertIn(method, stand, name)
                self.assertEqual(parameters(getattr(thing, method)), ", ".join(["self"] + [its] * (its != "")), method)

    def test_errors(self):
        for module, errors in ERRORS.items():
            for name, told in errors.items():
                self.assertIsInstance(self.defined(module).get(name), ast.ClassDef, name)
                error = getattr(importlib.import_module(f"moonfall.{module}"), name)
                self.assertEqual(error.__bases__, (MoonError,))
                words = told.split(", ")
                e = error(*range(len(words)))
                self.assertEqual([getattr(e, word) for word in words], list(range(len(words))))
        self.assertEqual(MoonError.__bases__, (Exception,))
        self.assertIn("MoonError", self.defined("errors"))

    def test_attributes(self):
        camera = Camera(1, 1, 0, 0, 0)
        sky = Sky(Ground([]), camera, (0,), (0, 0, 0, 0))
        craft = Craft((sky,), (0, 0), 0, (away(1),))
        here = ((0, 0, 0),)
        lander = Lander(craft, here, 1, 1)
        for thing, words in ((sky.ground, "craters"), (camera, "width height error false lost"),
                             (sky, "ground camera turns area"), (Survey([], camera, []), "sites camera looks"),
                             (away(1), "kind fuel aim slips"), (craft, "skies foot room deeds"),
                             (lander, "belief fuel stand looking"), (Flight(craft, here[0], 1), "standing fuel stand"),
                             (Engines(), "rows"), (Crew(lander, ""), "lander rows text loose is_open")):
            self.assertLessEqual(set(words.split()), set(vars(thing)))


if __name__ == "__main__":
    unittest.main()
