"""The errors that are told; each keeps its argument as an attribute."""


class MoonError(Exception):
    """Any error of moonfall."""


class BadGround(MoonError):
    """The first crater or site that is wrong, by its number."""

    def __init__(self, number):
        self.number = number


class BadCamera(MoonError):
    """The first wrong number of a camera, by its word."""

    def __init__(self, word):
        self.word = word


class BadSky(MoonError):
    """What is wrong with a sky, by its word."""

    def __init__(self, word):
        self.word = word


class BadPicture(MoonError):
    """The first thing in a picture that is no point of the frame, by its number."""

    def __init__(self, number):
        self.number = number


class BadStanding(MoonError):
    """A thing that is no standing of the sky, or no move."""

    def __init__(self, standing):
        self.standing = standing
