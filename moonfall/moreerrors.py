"""The error of searches that are bounded."""

from moonfall.errors import MoonError


class TooMany(MoonError):
    """More would have to be looked at than was let."""

    def __init__(self, most):
        self.most = most
