"""What has the form of a part of a plan or of a doom, whoever made it."""

from moonfall.crafts import MOST_TANK
from moonfall.errors import BadPicture
from moonfall.whole import is_between


def is_row(craft, thing):
    """Whether a thing is a tuple (some standings that can be, a fuel, something)."""
    if not isinstance(thing, tuple) or len(thing) != 3:
        return False
    belief, fuel, _ = thing
    if not isinstance(belief, tuple) or not belief or not all([craft.is_over(standing) for standing in belief]):
        return False
    return is_between(fuel, 0, MOST_TANK)


def is_picture(camera, thing):
    """Whether a thing is a picture of a camera."""
    try:
        camera.check_picture(thing)
    except BadPicture:
        return False
    return True
