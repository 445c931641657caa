"""What the tests compare with: everything by its own words, slowly, without the program's own rules."""

from itertools import combinations_with_replacement, product
from random import Random

from moonfall.grounds import Camera, Ground, Sky

# So great a `most` that nothing is let go.
NEVER = 10 ** 9


def turned_plain(x, y, turn):
    for _ in range(turn):
        x, y = -y, x
    return x, y


def places_of(sky, standing):
    turn, a, b = standing
    out = []
    for x, y, size in sky.ground.craters:
        tx, ty = turned_plain(x, y, turn)
        out.append((tx + a, ty + b, size))
    return out


def sure_of(sky, standing):
    camera = sky.camera
    return [
        number
        for number, (x, y, _) in enumerate(places_of(sky, standing))
        if camera.error <= x < camera.width - camera.error and camera.error <= y < camera.height - camera.error
    ]


def can_be_of(sky, point, place):
    error = sky.camera.error
    return point[2] == place[2] and abs(point[0] - place[0]) <= error and abs(point[1] - place[1]) <= error


def fits_plain(sky, picture, standing):
    """All ways to put points to craters, one to one."""
    places = places_of(sky, standing)
    sure = set(sure_of(sky, standing))

    def go(at, used, false):
        if false > sky.camera.false:
            return False
        if at == len(picture):
            return len(sure - used) <= sky.camera.lost
        for number, place in enumerate(places):
            if number not in used and can_be_of(sky, picture[at], place):
                if go(at + 1, used | {number}, false):
                    return True
        return go(at + 1, used, false + 1)

    return go(0, frozenset(), 0)


def greatest_put(rows):
    """The most of some lists of things that can be put to things, one to one, by trying all."""
    def go(at, used):
        if at == len(rows):
            return 0
        best = go(at + 1, used)
        for thing in rows[at]:
            if thing not in used:
                best = max(best, 1 + go(at + 1, used | {thing}))
        return best

    return go(0, frozenset())


def frame_points(sky):
    """All points of the frame that any crater of the ground can look like, and of one size that none has."""
    sizes = sorted({size for _, _, size in sky.ground.craters} | {98})
    return [(x, y, size) for x in range(sky.camera.width) for y in range(sky.camera.height) for size in sizes]


def all_pictures(sky, most):
    points = frame_points(sky)
    for many in range(most + 1):
        yield from combinations_with_replacement(points, many)


def near_plain(one, other, reach):
    return one[0] == other[0] and max(abs(one[1] - other[1]), abs(one[2] - other[2])) <= reach


def random_sky(seed, spans=(3, 3), most=4, sizes=2, frame=(4, 3), slacks=(0, 1, 2), errors=(0, 0, 1), turns=4,
               least=0):
    """A small sky out of a seed; some have craters that stand twice, or no craters."""
    dice = Random(seed)
    many = dice.randint(least, most)
    craters = [(dice.randint(-2, 3), dice.randint(-2, 3), dice.randint(1, sizes)) for _ in range(many)]
    if craters and dice.random() < 0.3:
        craters[0] = craters[-1]
    false = dice.choice(slacks)
    lost = dice.choice(slacks)
    wide, high = [dice.randint(max(1, most // 2), most) for most in frame]
    camera = Camera(wide, high, dice.choice(errors), false, lost)
    chosen = tuple(sorted(dice.sample(range(4), dice.randint(1, turns))))
    a, b = dice.randint(-3, 2), dice.randint(-3, 2)
    area = (a, a + dice.randint(0, spans[0] - 1), b, b + dice.randint(0, spans[1] - 1))
    return Sky(Ground(craters), camera, chosen, area)


def random_picture(sky, dice, most=4):
    """A picture of the sky: of a standing, disturbed, or of anything."""
    points = frame_points(sky)
    picture = []
    if dice.random() < 0.7:
        standing = dice.choice(sky.standings())
        for x, y, size in places_of(sky, standing):
            x += dice.randint(-sky.camera.error, sky.camera.error)
            y += dice.randint(-sky.camera.error, sky.camera.error)
            if 0 <= x < sky.camera.width and 0 <= y < sky.camera.height and dice.random() < 0.8:
                picture.append((x, y, size))
    while len(picture) < most and dice.random() < 0.4:
        picture.append(dice.choice(points))
    dice.shuffle(picture)
    return tuple(picture[:most])


def box(low_a, high_a, low_b, high_b):
    return list(product(range(low_a, high_a + 1), range(low_b, high_b + 1)))


def looks_as_one_plain(sky, place, other):
    """[10]: some point of the frame can be of both."""
    error = sky.camera.error
    return place[2] == other[2] and all(
        any(abs(k - place[axis]) <= error and abs(k - other[axis]) <= error
            for k in range(max(0, place[axis] - error), min(many, place[axis] + error + 1)))
        for axis, many in ((0, sky.camera.width), (1, sky.camera.height))
    )


def shortage_plain(sky, one, other):
    """How many craters surely in at one can't be put to craters at the other with which they can look as one."""
    here, there = places_of(sky, one), places_of(sky, other)
    rows = [[d for d, q in enumerate(there) if looks_as_one_plain(sky, here[c], q)] for c in sure_of(sky, one)]
    return len(rows) - greatest_put(rows)


def slack_plain(sky, one, other):
    return max(shortage_plain(sky, one, other), shortage_plain(sky, other, one))


def are_alike_plain(sky, one, other):
    return slack_plain(sky, one, other) <= sky.camera.lost + sky.camera.false


def count(told, row):
    """How often rows of each length, or None, were told."""
    key = None if row is None else len(row)
    told[key] = told.get(key, 0) + 1


def points_enough(sky, lot):
    """Points that no crater surely in needs, at some standing, can be left out: so that many are enough."""
    return sum(max(0, len(sure_of(sky, standing)) - sky.camera.lost) for standing in set(lot))


def lots_plain(sky, belief, most):
    """The greatest lots that pictures of few points fit, by trying all."""
    lots = set()
    for picture in all_pictures(sky, most):
        lots.add(frozenset(standing for standing in belief if fits_plain(sky, picture, standing)))
    return sorted(tuple(sorted(lot)) for lot in lots if lot and not any(lot < other for other in lots))


def skies(many, start=0, frame=(2, 2), sizes=1, slacks=(0, 0, 1), errors=(0, 0, 1), most=6):
    for seed in range(start, start + many):
        yield Random(seed), random_sky(seed, spans=(3, 3), most=most, sizes=sizes, frame=frame, slacks=slacks,
                                       errors=errors, turns=2, least=2)


def turning_skies(many, start=0):
    """Skies with four turns over few craters: at many standings just the same can be seen. Four points are enough."""
    for seed in range(start, start + many):
        dice = Random(seed)
        craters = dice.choice(([(0, 0, 1)], [(0, 0, 1), (1, 0, 1)], [(0, 0, 1), (0, 0, 1), (3, 0, 1)]))
        camera = Camera(3, 1, dice.choice((0, 0, 1)), dice.randint(0, 1), dice.choice((0, 0, 1)))
        yield dice, Sky(Ground(craters), camera, (0, 1, 2, 3), (-1, 2, 0, 1))


def changed_parts(thing):
    """A nest of tuples with just one part changed, in many ways; behind each one what may be mistaken for it."""
    if isinstance(thing, tuple):
        yield list(thing)
        yield thing + thing[-1:]
        for at, part in enumerate(thing):
            yield thing[:at] + thing[at + 1:]
            for changed in changed_parts(part):
                yield thing[:at] + (changed,) + thing[at + 1:]
    elif isinstance(thing, int):
        yield from (thing + 1, thing - 1, bool(thing), None)
    else:
        yield from ("false" if thing == "lost" else "lost", None)
