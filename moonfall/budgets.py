"""Budgets: how much a search may look at."""

from moonfall.moreerrors import TooMany


class Budget:
    """Lets so many things be looked at."""

    def __init__(self, most):
        self.most = most
        self.spent = 0

    def spend(self):
        """One thing more is looked at; TooMany if that is not let."""
        if self.spent >= self.most:
            raise TooMany(self.most)
        self.spent += 1


class Patience:
    """How much may still be tried until something else is tried: shared by searches that ask one another."""

    def __init__(self):
        self.left = 0
