"""Drawings: rows of signs, one for each cell of a box."""

from moonfall.grounds import Ground
from moonfall.texterrors import BadText

EMPTY = "."
MANY = "+"
SIZES = "123456789"
MOST_ROWS = 100
MOST_SIGNS = 100


def _drawn(signs, lows, highs):
    """The rows of a box, out of a dict from cells to signs."""
    rows = []
    for y in range(lows[1], highs[1] + 1):
        rows.append("".join([signs.get((x, y), EMPTY) for x in range(lows[0], highs[0] + 1)]))
    return rows


def _sign_of(number):
    """The sign of a size, or of so many."""
    return str(number) if number <= len(SIZES) else MANY


def _drawn_numbers(numbers, lows, highs):
    return _drawn({cell: _sign_of(numbers[cell]) for cell in numbers}, lows, highs)


def draw_ground(ground, lows, highs):
    """The sizes of the greatest craters at the cells of a box."""
    sizes = {}
    for x, y, size in ground.craters:
        sizes[(x, y)] = max(size, sizes.get((x, y), 0))
    return _drawn_numbers(sizes, lows, highs)


def read_ground(text):
    """The ground of such rows, the first sign being (0, 0)."""
    rows = text.split("\n")
    craters = []
    for y, row in enumerate(rows):
        if y >= MOST_ROWS or not 1 <= len(row) <= MOST_SIGNS or len(row) != len(rows[0]):
            raise BadText(y, 0)
        for x, sign in enumerate(row):
            if sign in SIZES:
                craters.append((x, y, int(sign)))
            elif sign != EMPTY:
                raise BadText(y, x)
    return Ground(craters)


def is_clear(craft, cell):
    """Whether it is safe to land at a cell of the ground."""
    # However the craft is turned, craters are as far from the foot: so it is asked of it as it isn't turned.
    return craft.is_safe((0, craft.foot[0] - cell[0], craft.foot[1] - cell[1]))


def draw_clear(craft, lows, highs):
    """Where in a box it is safe to land."""
    cells = [(x, y) for x in range(lows[0], highs[0] + 1) for y in range(lows[1], highs[1] + 1)]
    return _drawn({cell: "o" if is_clear(craft, cell) else "x" for cell in cells}, lows, highs)


def draw_belief(craft, belief, lows, highs):
    """How many standings of a belief have their foot at the cells of a box."""
    many = {}
    for standing in belief:
        cell = craft.cell_below(standing)
        many[cell] = many.get(cell, 0) + 1
    return _drawn_numbers(many, lows, highs)
