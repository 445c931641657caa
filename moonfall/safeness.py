"""Safe skies: those in which all that looks alike is near; what makes a sky safe, and where it is."""

from moonfall.alike import picture_for
from moonfall.budgets import Budget
from moonfall.clashes import Clashes
from moonfall.distances import strength_of
from moonfall.errors import BadGround
from moonfall.grounds import Camera, Ground, Sky
from moonfall.independent import Network
from moonfall.likeness import Likeness
from moonfall.lots import first_safe_lot
from moonfall.masks import mask_of
from moonfall.reading import is_near
from moonfall.whole import MOST_CRATERS, is_crater


def is_safe(sky, reach):
    """Whether all standings of the sky that are alike are near."""
    return Clashes(sky).least_pair(reach) is None


def confusion(sky, reach):
    """The least pair that is alike and not near, with a picture that fits both; None if the sky is safe."""
    pair = Clashes(sky).least_pair(reach)
    if pair is None:
        return None
    one, other = pair
    return one, other, picture_for(sky, one, other)


def with_slack(sky, slack):
    """The sky with no false points, and so many lost craters."""
    camera = sky.camera
    return Sky(sky.ground, Camera(camera.width, camera.height, camera.error, 0, slack), sky.turns, sky.area)


def strength(sky, reach):
    """The greatest sum of false and lost with which the sky is safe; -1 without any, None if it is with all."""
    return strength_of(sky, reach)


def with_craters(sky, more):
    """The sky with more craters."""
    return Sky(Ground([*sky.ground.craters, *more]), sky.camera, sky.turns, sky.area)


def beacons(sky, sites, reach):
    """The first of the shortest rows of sites with which, as more craters, the sky is safe; None without any."""
    _check_sites(sky, sites)
    full = with_craters(sky, sites)
    craters = full.ground.craters
    numbers = [craters.index(site) for site in sorted(sites)]
    always = mask_of([number for number in range(len(craters)) if number not in numbers])
    lot = first_safe_lot(full, always, numbers, reach)
    return None if lot is None else tuple([craters[number] for number in lot])


def _check_sites(sky, sites):
    room = MOST_CRATERS - len(sky.ground.craters)
    for number, site in enumerate(sites):
        if number >= room or not is_crater(site) or site in sites[:number]:
            raise BadGround(number)


def sure_standings(sky, reach):
    """The standings of the sky all of whose alike ones are near, ascending."""
    clashes = Clashes(sky)
    first = clashes.everywhere[0]
    return tuple([one for one in clashes.everywhere if clashes.first_clashing(one, reach, first) is None])


def keeps_apart(sky, lot, reach):
    """Whether no two of some standings are alike but not near."""
    likeness = Likeness(sky)
    for at, one in enumerate(lot):
        for other in lot[:at]:
            if not is_near(one, other, reach) and likeness.are_alike(one, other):
                return False
    return True


def greatest_region(sky, reach, most):
    """The least of the longest ascending tuples of standings that keep apart."""
    budget = Budget(most)
    budget.spend()
    clashes = Clashes(sky)
    standings = clashes.everywhere
    number_of = {standing: number for number, standing in enumerate(standings)}
    links = []
    for one in standings:
        links.append(mask_of([number_of[other] for other in clashes.clashing(one, reach)]))
    return tuple([standings[number] for number in Network(links, budget).least_greatest()])
