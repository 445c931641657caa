"""Crafts for the tests, and what the tests of landers compare with: all deeds, all ends, all pictures."""

from random import Random

from moonfall.answers import answers
from moonfall.crafts import Craft
from moonfall.deeds import away, land, look, step, turn
from moonfall.grounds import Camera, Ground, Sky
from plain import NEVER, all_pictures, fits_plain, places_of, points_enough, turned_plain

STILL = ((0, 0),)


def slips_of(dice):
    if dice.random() < 0.7:
        return STILL
    return tuple((dice.randint(-1, 1), dice.randint(-1, 1)) for _ in range(dice.randint(1, 3)))


def deed_of(dice, cameras):
    kind = dice.choice(("step", "step", "step", "turn", "look", "look", "land", "away"))
    fuel = dice.choice((1, 1, 2))
    if kind == "step":
        return step(fuel, dice.choice(((1, 0), (-1, 0), (0, 1), (0, -1), (2, -1))), slips_of(dice))
    if kind == "turn":
        return turn(fuel, dice.randint(1, 3))
    if kind == "look":
        return look(fuel, dice.randrange(cameras))
    if kind == "land":
        return land(fuel, slips_of(dice))
    return away(dice.randint(2, 6))


def random_craft(seed):
    """A small craft out of a seed, with pictures of few points; many of them over a row of craters."""
    dice = Random(seed)
    if dice.random() < 0.6:
        return row_craft(dice)
    craters = [(dice.randint(-2, 4), dice.randint(-1, 2), dice.choice((1, 1, 2))) for _ in range(dice.randint(0, 2))]
    turns = dice.choice(((0,), (0,), (1,), (0, 2), (0, 1, 2, 3)))
    a, b = dice.randint(-4, -1), dice.randint(-1, 0)
    area = (a, a + dice.randint(2, 6), b, b + dice.randint(0, 2))
    skies = []
    for _ in range(dice.randint(1, 2)):
        camera = Camera(dice.randint(1, 4), dice.randint(1, 2), dice.choice((0, 0, 0, 1)), dice.choice((0, 0, 0, 1)),
                        dice.choice((0, 0, 0, 1)))
        skies.append(Sky(Ground(craters), camera, turns, area))
    deeds = [deed_of(dice, len(skies)) for _ in range(dice.randint(2, 5))]
    if dice.random() < 0.8:
        deeds += [land(1, STILL), look(1, 0)]
    return Craft(tuple(skies), (dice.randint(-1, 1), dice.randint(-1, 1)), dice.choice((0, 0, 0, 1)), tuple(deeds))


def row_craft(dice):
    """A craft over a row of craters, some of which it can't tell from one another; it lands where it has walked to."""
    craters = [(x, 0, dice.choice((1, 1, 2))) for x in dice.sample(range(-4, 5), dice.randint(1, 3))]
    camera = Camera(dice.randint(2, 4), 1, 0, dice.choice((0, 0, 1)), dice.choice((0, 0, 0, 1)))
    sky = Sky(Ground(craters), camera, dice.choice(((0,), (0,), (0, 2))), (-5, 4, 0, 0))
    slips = dice.choice((STILL, STILL, ((0, 0), (1, 0))))
    deeds = [land(1, STILL), look(1, 0), step(1, (1, 0), slips), step(dice.randint(1, 2), (-1, 0), STILL), turn(1, 2),
             away(dice.randint(4, 7))]
    return Craft((sky,), (dice.randint(0, 1), 0), 0, tuple(dice.sample(deeds, dice.randint(4, 6))))


def look_craft(dice):
    """A craft over a row of a few craters, for which a look is often worth its fuel."""
    craters = [(x, 0, dice.choice((1, 1, 2))) for x in dice.sample(range(-6, 7), dice.randint(2, 4))]
    camera = Camera(dice.randint(3, 5), 1, dice.choice((0, 0, 0, 1)), dice.choice((0, 0, 0, 1)),
                    dice.choice((0, 0, 0, 1)))
    sky = Sky(Ground(craters), camera, (0,), (-7, 8, 0, 0))
    slips = dice.choice((STILL, STILL, ((0, 0), (1, 0))))
    deeds = (land(1, STILL), look(1, 0), step(1, (1, 0), slips), step(1, (-1, 0), STILL), away(dice.randint(8, 14)))
    return Craft((sky,), (dice.randint(0, 2), 0), 0, deeds)


def look_cases(many, start):
    """Such crafts with beliefs."""
    for seed in range(start, start + many):
        dice = Random(seed)
        craft = look_craft(dice)
        yield dice, craft, random_belief(dice, craft, 6)


def random_belief(dice, craft, most=4):
    standings = craft.skies[0].standings()
    return tuple(sorted(dice.sample(standings, min(len(standings), dice.randint(1, most)))))


def cases(many, start, most_points=4):
    """Crafts with beliefs for which all pictures can be gone through, and fuels."""
    for seed in range(start, start + many):
        craft = random_craft(seed)
        dice = Random(seed)
        belief = random_belief(dice, craft)
        if all(points_enough(sky, sky.standings()) <= most_points for sky in craft.skies):
            yield dice, craft, belief, dice.randint(0, 8)


def ends_plain(craft, standing, deed):
    """The standings to which a deed can lead, by where each place of the ground is in the camera."""
    quarters, a, b = standing
    right, down = craft.foot
    if deed.kind == "turn":
        x, y = turned_plain(a - right, b - down, deed.aim)
        return {((quarters + deed.aim) % 4, x + right, y + down)}
    aim = deed.aim if deed.kind == "step" else (0, 0)
    return {(quarters, a - aim[0] - x, b - aim[1] - y) for x, y in deed.slips}


def is_over_plain(craft, standing):
    turns, area = craft.skies[0].turns, craft.skies[0].area
    return standing[0] in turns and area[0] <= standing[1] <= area[1] and area[2] <= standing[2] <= area[3]


def is_safe_plain(craft, standing):
    right, down = craft.foot
    return all(abs(x - right) > size + craft.room or abs(y - down) > size + craft.room
               for x, y, size in places_of(craft.skies[0], standing))


def behind_plain(craft, belief, deed):
    return tuple(sorted({end for standing in belief for end in ends_plain(craft, standing, deed)}))


def is_kept_plain(craft, belief, deed):
    is_right = is_safe_plain if deed.kind == "land" else is_over_plain
    return all(is_right(craft, end) for end in behind_plain(craft, belief, deed))


class Trial:
    """What is sure of a craft, by going through all deeds and all pictures."""

    def __init__(self, craft, goal):
        self.craft = craft
        self.goal = goal
        self.known = {}
        self.lots = {}

    def lots_seen(self, camera, belief):
        """The lots of a belief that any picture fits."""
        key = (camera, belief)
        if key not in self.lots:
            sky = self.craft.skies[camera]
            lots = {tuple(standing for standing in belief if fits_plain(sky, picture, standing))
                    for picture in all_pictures(sky, points_enough(sky, belief))}
            self.lots[key] = lots - {()}
        return self.lots[key]

    def is_sure(self, belief, fuel):
        key = (belief, fuel)
        if key not in self.known:
            self.known[key] = any(self.is_good(deed, belief, fuel - deed.fuel) for deed in self.craft.deeds)
        return self.known[key]

    def is_good(self, deed, belief, left):
        if left < 0 or not is_kept_plain(self.craft, belief, deed):
            return False
        if deed.kind == "land":
            return True
        if deed.kind == "away":
            return self.goal == "keep"
        if deed.kind == "look":
            return all(self.is_sure(lot, left) for lot in self.lots_seen(deed.aim, belief))
        return self.is_sure(behind_plain(self.craft, belief, deed), left)

    def least(self, belief, fuel):
        return next((less for less in range(fuel + 1) if self.is_sure(belief, less)), None)


    def is_sure_with(self, belief, fuel, looks):
        """Whether it is sure with at most so many looks in each run."""
        key = (belief, fuel, looks)
        if key not in self.known:
            self.known[key] = any(self.is_good_with(deed, belief, fuel - deed.fuel, looks) for deed in self.craft.deeds)
        return self.known[key]

    def is_good_with(self, deed, belief, left, looks):
        if left < 0 or not is_kept_plain(self.craft, belief, deed):
            return False
        if deed.kind in ("land", "away"):
            return deed.kind == "land" or self.goal == "keep"
        if deed.kind == "look":
            return looks > 0 and all(self.is_sure_with(lot, left, looks - 1) for lot in self.lots_seen(deed.aim, belief))
        return self.is_sure_with(behind_plain(self.craft, belief, deed), left, looks)

    def fewest_looks(self, belief, fuel):
        return next((many for many in range(fuel + 1) if self.is_sure_with(belief, fuel, many)), None)


class QuickTrial(Trial):
    """The same where there are too many pictures to go through: what can be seen is told by the program's answers."""

    def lots_seen(self, camera, belief):
        key = (camera, belief)
        if key not in self.lots:
            self.lots[key] = {lot for lot, _ in answers(self.craft.skies[camera], belief, NEVER)}
        return self.lots[key]
