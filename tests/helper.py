"""What the tests share: plots to ask about, and the promises told by other, slower means than the package uses."""

import functools
import itertools
import random
from fractions import Fraction


def least_first(corners):
    start = corners.index(min(corners))
    return tuple(corners[start:]) + tuple(corners[:start])


def walked(steps):
    """The corners to which the steps lead, the least one first."""
    corners = [(0, 0)]
    for step in steps[:-1]:
        corners.append((corners[-1][0] + step[0], corners[-1][1] + step[1]))
    return least_first(corners)


def shifted(corners, x, y):
    return tuple((corner[0] + x, corner[1] + y) for corner in corners)


def twin(corners):
    """Equal to the corners, but another thing."""
    return tuple([tuple(list(corner)) for corner in corners])


def nested(depth, kind, core):
    thing = core
    for _ in range(depth):
        thing = kind([thing])
    return thing


TRIANGLE = ((0, 0), (1, 0), (0, 1))
SQUARE = ((0, 0), (2, 0), (2, 2), (0, 2))
DIAMOND = ((-3, 0), (0, -3), (3, 0), (0, 3))
DART = ((0, 0), (4, 0), (4, 4), (3, 1))
# Two of its sides lie on one line, apart from one another.
TROUGH = ((0, 0), (3, 0), (3, 2), (2, 2), (2, 1), (1, 1), (1, 2), (0, 2))
# The same with a bay wide enough for stakes.
BAY = ((0, 0), (8, 0), (8, 6), (6, 6), (6, 2), (2, 2), (2, 6), (0, 6))
STAIRS = (
    (0, 0), (6, 0), (6, 1), (5, 1), (5, 2), (4, 2),
    (4, 3), (3, 3), (3, 4), (2, 4), (2, 5), (0, 5),
)
PENTAGON = ((-10, 3), (-6, -8), (6, -8), (10, 3), (0, 10))
# Its fence goes up and down, with corners at its top and foot at one height.
ZIGZAG = ((0, 0), (2, 4), (4, 0), (6, 4), (8, 0), (8, 8), (6, 6), (4, 8), (2, 6), (0, 8))

ROUND_STEPS = (
    (3, 0), (6, 3), (3, 6), (0, 3), (-3, 6), (-6, 3),
    (-3, 0), (-6, -3), (-3, -6), (0, -3), (3, -6), (6, -3),
)
ROUND_OF_12 = walked(ROUND_STEPS)

# One corner too many, but nothing else that 0.5 speaks of: here (6, 3) is taken in two steps.
ROUND_OF_13 = walked(ROUND_STEPS[:1] + ((4, 1), (2, 2)) + ROUND_STEPS[2:])
MORE_STAIRS = STAIRS[:-1] + ((1, 5), (0, 6))

# Its inside is one lane that winds inwards, so few of its corners see one another.
SPIRAL = (
    (0, 0), (9, 0), (9, 9), (2, 9), (2, 4), (5, 4),
    (5, 6), (4, 6), (4, 7), (7, 7), (7, 2), (0, 2),
)
# Three deep bays side by side; the corners at their feet lie on one line, as do those between them.
COMB = (
    (0, 0), (7, 0), (7, 9), (6, 1), (5, 9), (4, 1),
    (3, 9), (2, 1), (1, 9),
)
# Its points lie on one line and its notches on another.
SAW = (
    (0, 0), (10, 0), (10, 2), (9, 1), (8, 2), (7, 1),
    (6, 2), (5, 1), (4, 2), (3, 1), (2, 2), (0, 1),
)
# Its corner (2, 2) lies on the line from (0, 0) to (4, 4), its corner (6, 2) on that from (4, 4) to (8, 0).
BARB = ((0, 0), (4, 1), (8, 0), (6, 2), (7, 5), (4, 4), (1, 5), (2, 2))
# Cut off three of its outer corners, and what is left goes straight on at others.
CROSS = (
    (0, 2), (2, 2), (2, 0), (4, 0), (4, 2), (6, 2),
    (6, 4), (4, 4), (4, 6), (2, 6), (2, 4), (0, 4),
)

ROUND = (TRIANGLE, SQUARE, DIAMOND, PENTAGON, ROUND_OF_12)
NOT_ROUND = (DART, TROUGH, BAY, ZIGZAG, STAIRS, SPIRAL, COMB, SAW, BARB, CROSS)

# Of each clause of 0.5 that speaks of how corners lie, corners that break it alone.
BREAKING_ONE = {
    "twice": ((0, 0), (2, 0), (1, 1), (2, 2), (0, 2), (1, 1)),
    "straight": ((0, 0), (1, 0), (2, 0), (0, 2)),
    "sides": ((0, 0), (3, 1), (3, 0), (0, 4)),
    "inside": ((0, 0), (0, 1), (1, 0)),
    "least": ((1, 0), (0, 1), (0, 0)),
}

# No plots, whatever else they are.
OTHER_THINGS = (
    True, False, None, 0, 7, -100, 10 ** 5000, "", "0,0 1,0 0,1", "abc", (), [], [[]], [None],
    list(TRIANGLE), [list(spot) for spot in TRIANGLE], tuple(list(spot) for spot in TRIANGLE),
    (0, 1, 2), (None, None, None), ("00", "10", "01"), ("0,0", "1,0", "0,1"), (True, False, True),
    ((0,), (1,), (2,)), ((0, 0, 0), (1, 0, 0), (0, 1, 0)), (TRIANGLE,), (TRIANGLE, TRIANGLE, TRIANGLE),
    ((0, 0), (True, 0), (0, 1)), ((0, 0), (1, 0), (False, 1)), ((0, 0), (1, 0), (0, None)),
    ((0, 0), ("1", 0), (0, 1)), ((0, 0), (1, 0), [0, 1]), ((0, 0), (1, 0), (0, [1])), ((0, 0), (1, 0), "01"),
    TRIANGLE + (None,), TRIANGLE + ([],), nested(30, list, 0), nested(30, tuple, TRIANGLE),
    ((0, 0), (1, 0), (0, nested(30, list, 1))), ((0, 0), (1, 0), nested(30, tuple, 1)),
)


def some_plots(count, corners, reach):
    """Plots with so many corners, made from three corners by setting in one more at a time."""
    luck = random.Random(f"{count} {corners} {reach}")
    plots = []
    while len(plots) < count:
        way = ()
        for _ in range(200):
            if len(way) == corners:
                plots.append(way)
                break
            wider = list(way)
            for _ in range(1 if way else 3):
                spot = (luck.randint(-reach, reach), luck.randint(-reach, reach))
                wider.insert(luck.randint(0, len(wider)), spot)
            wider = least_first(wider)
            if not broken_clauses(wider):
                way = wider
    return plots


def small_plots():
    """Every plot of three to five corners on a grid of three by three."""
    grid = [(x, y) for x in range(3) for y in range(3)]
    for corners in (3, 4, 5):
        for way in itertools.permutations(grid, corners):
            if way[0] == min(way) and not broken_clauses(way):
                yield way


def some_round_plots(count, corners, reach):
    """Round plots with so many corners, taken out of the tightest one round spots that lie near a ring."""
    luck = random.Random(f"round {count} {corners} {reach}")
    rim = [
        (x, y)
        for x in range(-reach, reach + 1)
        for y in range(-reach, reach + 1)
        if 7 * reach * reach <= 10 * (x * x + y * y) <= 10 * reach * reach
    ]
    plots = []
    while len(plots) < count:
        corners_there = tightest(luck.sample(rim, min(len(rim), 4 * corners)))
        if len(corners_there) >= corners:
            kept = sorted(luck.sample(range(len(corners_there)), corners))
            plots.append(least_first([corners_there[k] for k in kept]))
    return plots


def cross(p, q):
    return p[0] * q[1] - p[1] * q[0]


def less(p, q):
    return (p[0] - q[0], p[1] - q[1])


def share_a_point(p, p_end, q, q_end):
    """Solve p + s * along == q + t * across, with s and t from 0 to 1."""
    along, across, gap = less(p_end, p), less(q_end, q), less(q, p)
    det = cross(along, across)
    if det != 0:
        s = Fraction(cross(gap, across), det)
        t = Fraction(cross(gap, along), det)
        return 0 <= s <= 1 and 0 <= t <= 1
    if cross(gap, along) != 0:
        return False
    # On one line, the order of tuples is the order along the line.
    return max(min(p, p_end), min(q, q_end)) <= min(max(p, p_end), max(q, q_end))


def twice_signed_area(corners):
    return sum(cross(corners[k - 1], corners[k]) for k in range(len(corners)))


def stands_twice(corners):
    return any(corners[k] == corners[m] for k in range(len(corners)) for m in range(k))


def bends(corners):
    """Above 0 where the way bends left, corner by corner."""
    count = len(corners)
    steps = [less(corners[(k + 1) % count], corners[k]) for k in range(count)]
    return [cross(steps[k], steps[(k + 1) % count]) for k in range(count)]


def all_turn_left(corners):
    return min(bends(corners)) > 0


def sides_share_a_point(corners):
    count = len(corners)
    for k in range(count):
        for m in range(count):
            ends = [corners[k], corners[(k + 1) % count], corners[m], corners[(m + 1) % count]]
            if len(set(ends)) == 4 and share_a_point(*ends):
                return True
    return False


def broken_clauses(corners):
    """Which of the clauses of 0.5 that speak of how corners lie are broken; a plot breaks none."""
    broken = {
        "twice": stands_twice(corners),
        "straight": 0 in bends(corners),
        "sides": sides_share_a_point(corners),
        "inside": twice_signed_area(corners) <= 0,
        "least": sorted(corners)[0] != corners[0],
    }
    return [name for name, is_broken in broken.items() if is_broken]


def round_by_sides(corners):
    """Round is what has all other corners to the left of each side's line."""
    count = len(corners)
    if sorted(corners)[0] != corners[0]:
        return False
    for k in range(count):
        a, b = corners[k], corners[(k + 1) % count]
        rest = [corners[m] for m in range(count) if m not in (k, (k + 1) % count)]
        if any(cross(less(b, a), less(c, a)) <= 0 for c in rest):
            return False
    return True


def tightest(spots):
    """The corners of the tightest round plot, found one after the other as a cord finds them.

    Where all spots lie on one line, there are fewer than three.
    """
    corners = [min(spots)]
    while True:
        here = corners[-1]
        ahead = here
        for spot in spots:
            bend = cross(less(ahead, here), less(spot, here))
            if ahead == here or bend < 0 or bend == 0 and is_farther(here, spot, ahead):
                ahead = spot
        if ahead == corners[0]:
            return tuple(corners)
        corners.append(ahead)


def is_farther(here, one, other):
    far, near = less(one, here), less(other, here)
    return far[0] ** 2 + far[1] ** 2 > near[0] ** 2 + near[1] ** 2


def by_direction(p, q):
    """Below 0 where the step p comes ahead of q for one who begins with steps to the right."""
    halves = [step[0] < 0 or step[0] == 0 and step[1] < 0 for step in (p, q)]
    return halves[0] - halves[1] or -cross(p, q)


def added_by_steps(one, other):
    """Two round plots added: from the least corners, added, all their sides are gone along as they turn left."""
    steps = [less(b, a) for a, b in sides(one) + sides(other)]
    way = [(one[0][0] + other[0][0], one[0][1] + other[0][1])]
    ahead = []
    for step in sorted(steps, key=functools.cmp_to_key(by_direction)):
        if ahead and cross(ahead[-1], step) == 0:
            step = (ahead[-1][0] + step[0], ahead[-1][1] + step[1])
            ahead.pop()
        ahead.append(step)
    for step in ahead[:-1]:
        way.append((way[-1][0] + step[0], way[-1][1] + step[1]))
    return tuple(way)


def sides(corners):
    return [(corners[k], corners[(k + 1) % len(corners)]) for k in range(len(corners))]


def place(corners, spot):
    """`in`, `on` or `out`, by a way out of the plot that is so slanted that it meets no corner."""
    if any(share_a_point(a, b, spot, spot) for a, b in sides(corners)):
        return "on"
    # No number that is asked about lies 2003 from another one.
    far = (spot[0] + 2003, spot[1] + 1)
    crossed = sum(share_a_point(a, b, spot, far) for a, b in sides(corners))
    return "in" if crossed % 2 else "out"


def spots_round(corners, margin):
    """All spots of the least upright rectangle round the corners, and so many beyond it."""
    xs = [corner[0] for corner in corners]
    ys = [corner[1] for corner in corners]
    return [
        (x, y)
        for x in range(min(xs) - margin, max(xs) + margin + 1)
        for y in range(min(ys) - margin, max(ys) + margin + 1)
    ]


def spots_of(corners):
    """All spots within and on the fence."""
    return [spot for spot in spots_round(corners, 0) if place(corners, spot) != "out"]


def counted(corners):
    """The stakes within, and those on the fence, one by one."""
    places = [place(corners, spot) for spot in spots_round(corners, 0)]
    return places.count("in"), places.count("on")
