"""The error of texts; it keeps its arguments as attributes."""

from moonfall.errors import MoonError


class BadText(MoonError):
    """The first wrong word of a text, by its line and its place in it."""

    def __init__(self, line, word):
        self.line = line
        self.word = word
