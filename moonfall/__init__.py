"""Moonfall: a moon lander that knows where it is by the craters it sees."""
