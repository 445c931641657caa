"""Glances: pictures seen behind known moves from one place."""

from itertools import combinations

from moonfall.charts import Chart
from moonfall.errors import BadStanding
from moonfall.fitting import fits_by
from moonfall.grounds import turned
from moonfall.likeness import Likeness
from moonfall.masks import mask_of
from moonfall.reading import is_near
from moonfall.whole import FARTHEST_MOVE, is_triple, is_turn


def is_move(thing):
    """Whether anybody's thing is a move."""
    if not is_triple(thing) or not is_turn(thing[0]):
        return False
    return all([-FARTHEST_MOVE <= shift <= FARTHEST_MOVE for shift in thing[1:]])


def _check_moves(moves):
    for move in moves:
        if not is_move(move):
            raise BadStanding(move)


def moved(standing, move):
    """The standing behind a move: each crater's place is turned, then shifted."""
    turn, a, b = standing
    quarters, right, down = move
    a, b = turned(a, b, quarters)
    return (turn + quarters) & 3, a + right, b + down


def reading_by(sky, looks):
    """The standings of the sky behind whose moves all pictures fit, ascending."""
    _check_moves([move for move, _ in looks])
    for _, picture in looks:
        sky.camera.check_picture(picture)
    chart = Chart(sky)
    left = sky.standings()
    for move, picture in looks:
        left = [standing for standing in left if fits_by(chart, picture, moved(standing, move))]
    return tuple(left)


def tells_apart(sky, one, other, moves):
    """The first of some moves behind which two standings are not alike; None without any."""
    return _first_telling(Likeness(sky), one, other, moves)


def _first_telling(likeness, one, other, moves):
    for move in moves:
        if _is_telling(likeness, one, other, move):
            return move
    return None


def _is_telling(likeness, one, other, move):
    return not likeness.are_alike(moved(one, move), moved(other, move))


def _far_pairs(sky, reach):
    """All pairs of standings of the sky that are not near, one before other, ascending."""
    standings = sky.standings()
    for at, one in enumerate(standings):
        for other in standings[at + 1:]:
            if not is_near(one, other, reach):
                yield one, other


def confusion_by(sky, moves, reach):
    """The least pair of standings of the sky that are not near and that no move tells apart; None without any."""
    _check_moves(moves)
    likeness = Likeness(sky)
    for one, other in _far_pairs(sky, reach):
        if _first_telling(likeness, one, other, moves) is None:
            return one, other
    return None


def fewest_glances(sky, moves, reach):
    """The first of the shortest rows of moves by which all pairs that are not near are told apart; None without any."""
    _check_moves(moves)
    tellers = _tellers(sky, moves, reach)
    if 0 in tellers:
        return None
    numbers = list(range(len(moves)))
    for many in range(len(moves) + 1):
        for lot in combinations(numbers, many):
            chosen = mask_of(lot)
            if all([chosen & mask for mask in tellers]):
                return tuple([moves[number] for number in lot])
    return None


def _tellers(sky, moves, reach):
    """The unlike masks of the moves that tell a pair apart, of all pairs that are not near."""
    likeness = Likeness(sky)
    masks = {}
    for one, other in _far_pairs(sky, reach):
        telling = [number for number, move in enumerate(moves) if _is_telling(likeness, one, other, move)]
        masks[mask_of(telling)] = True
        if not telling:
            break
    return sorted(masks)
