"""The examples of the document, as they stand there, and those of README.md."""

import doctest
import unittest
from pathlib import Path

README = Path(__file__).resolve().parent.parent / "README.md"

EXAMPLES = ("""
>>> from moonfall.crafts import Craft
>>> from moonfall.deeds import land, look, step
>>> from moonfall.grounds import Camera, Ground, Sky
>>> from moonfall.values import is_sure
>>> sky = Sky(Ground([(0, 0, 1)]), Camera(3, 1, 0, 0, 0), (0,), (-1, 2, 0, 0))
>>> craft = Craft((sky,), (0, 0), 0, (land(1, ((0, 0),)), look(1, 0), step(1, (-1, 0), ((0, 0),))))
>>> [is_sure(craft, "land", ((0, -1, 0), (0, 2, 0)), fuel, 10 ** 9) for fuel in (4, 5)]
[False, True]
""", """
>>> from moonfall.alike import are_alike, picture_for
>>> from moonfall.grounds import Camera, Ground, Sky
>>> from moonfall.reading import reading
>>> ground = Ground([(0, 0, 1), (2, 0, 1), (5, 0, 1)])
>>> sky = Sky(ground, Camera(4, 1, 0, 0, 0), (0,), (-4, 1, 0, 0))
>>> reading(sky, ((0, 0, 1), (2, 0, 1))), reading(sky, ((1, 0, 1), (3, 0, 1))), reading(sky, ((1, 0, 1),))
(((0, 0, 0),), ((0, 1, 0),), ((0, -4, 0), (0, -1, 0)))
>>> are_alike(sky, (0, -4, 0), (0, -1, 0)), picture_for(sky, (0, -4, 0), (0, -1, 0))
(True, ((1, 0, 1),))
""", """
>>> from moonfall.crafts import Craft
>>> from moonfall.deeds import land, look, step
>>> from moonfall.dooms import doom_for, shows_doom
>>> from moonfall.grounds import Camera, Ground, Sky
>>> from moonfall.looks import fewest_looks
>>> from moonfall.plans import plan_for, shows_plan
>>> from moonfall.values import least_fuel
>>> sky = Sky(Ground([(0, 0, 1)]), Camera(3, 1, 0, 0, 0), (0,), (-1, 2, 0, 0))
>>> craft = Craft((sky,), (0, 0), 0, (land(1, ((0, 0),)), look(1, 0), step(1, (-1, 0), ((0, 0),))))
>>> belief = ((0, -1, 0), (0, 2, 0))
>>> least_fuel(craft, "land", belief, 6, 10 ** 9), fewest_looks(craft, "land", belief, 6, 10 ** 9)
(5, 1)
>>> shows_plan(craft, "land", belief, 5, plan_for(craft, "land", belief, 5, 10 ** 9), 10 ** 9)
True
>>> shows_doom(craft, "land", belief, 4, doom_for(craft, "land", belief, 4, 10 ** 9))
True
""", """
>>> from moonfall.crafts import Craft
>>> from moonfall.deeds import land, look, step
>>> from moonfall.grounds import Camera, Ground, Sky
>>> from moonfall.landers import Lander
>>> sky = Sky(Ground([(0, 0, 1)]), Camera(3, 1, 0, 0, 0), (0,), (-1, 2, 0, 0))
>>> craft = Craft((sky,), (0, 0), 0, (land(1, ((0, 0),)), look(1, 0), step(1, (-1, 0), ((0, 0),))))
>>> lander = Lander(craft, ((0, -1, 0), (0, 2, 0)), 6, 10 ** 9)
>>> lander.choice()
1
>>> lander.do(1)
>>> lander.see(((2, 0, 1),))
>>> lander.belief, lander.fuel, lander.stand
(((0, 2, 0),), 5, 'flying')
""", """
>>> from moonfall.crews import deed_line, picture_line
>>> deed_line(0, 1), picture_line(0, ((2, 0, 1),))
('0 do 1 0', '0 saw 2,0,1 0')
""", """
>>> from moonfall.deeds import step
>>> from moonfall.drawings import draw_ground
>>> from moonfall.grounds import Ground
>>> from moonfall.moontexts import belief_of, deed_text
>>> deed_text(step(2, (1, 0), ((0, 1), (0, 0)))), belief_of("0,-1,0;0,2,0"), draw_ground(Ground([(0, 0, 1), (2, 1, 12)]), (0, 0), (2, 1))
('step 2 1,0 0,0;0,1', ((0, -1, 0), (0, 2, 0)), ['1..', '..+'])
""")


class Examples(unittest.TestCase):
    def run_all(self, text, name):
        test = doctest.DocTestParser().get_doctest(text, {}, name, None, 0)
        told = []
        results = doctest.DocTestRunner(verbose=False).run(test, out=told.append)
        self.assertEqual(results.failed, 0, "".join(told))
        return results.attempted

    def test_document(self):
        for number, text in enumerate(EXAMPLES):
            self.assertGreater(self.run_all(text, f"example {number}"), 1)

    def test_readme(self):
        # Each block by itself, as whoever reads it would try it.
        blocks = README.read_text().split("```python\n")[1:]
        self.assertGreater(len(blocks), 1)
        for number, block in enumerate(blocks):
            self.assertGreater(self.run_all(block.split("```")[0], f"README {number}"), 1)


if __name__ == "__main__":
    unittest.main()
