"""Margins: how much worse cameras or the room for landing may be, a goal being sure all the same."""

from moonfall.crafts import MOST_ROOM, Craft
from moonfall.grounds import Camera, Sky
from moonfall.landererrors import BadFlight
from moonfall.sureness import sureness_for

WORDS = ("error", "false", "lost", "room")
MOST_MORE = 12
MOST_ERRING = 100


def worse(craft, word, more):
    """The craft with all cameras, or the room, worse by so much."""
    _check_word(word)
    if word == "room":
        return Craft(craft.skies, craft.foot, craft.room + more, craft.deeds)
    skies = [Sky(sky.ground, _worse_camera(sky.camera, word, more), sky.turns, sky.area) for sky in craft.skies]
    return Craft(tuple(skies), craft.foot, craft.room, craft.deeds)


def _check_word(word):
    if not isinstance(word, str) or word not in WORDS:
        raise BadFlight(word)


def _worse_camera(camera, word, more):
    error, false, lost = camera.error, camera.false, camera.lost
    if word == "error":
        error += more
    elif word == "false":
        false += more
    else:
        lost += more
    return Camera(camera.width, camera.height, error, false, lost)


def margin(craft, goal, belief, fuel, word, most):
    """By how much it may be worse at the most, the goal being sure; -1 if it isn't sure as it is."""
    _check_word(word)
    for more in range(_most_more(craft, word) + 1):
        sureness, mask = sureness_for(worse(craft, word, more), goal, belief, fuel, most)
        if not sureness.is_sure(mask, fuel):
            return more - 1
    return _most_more(craft, word)


def _most_more(craft, word):
    """So much worse a craft can be, that is asked for."""
    if word == "room":
        return min(MOST_MORE, MOST_ROOM - craft.room)
    now = [_erring(sky.camera, word) for sky in craft.skies]
    return min(MOST_MORE, MOST_ERRING - max(now))


def _erring(camera, word):
    if word == "error":
        return camera.error
    return camera.false if word == "false" else camera.lost
