"""The tightest round plot round some spots, and round plots added.

Nothing is refused here but spots that all lie on one line.
"""

from plotstead.changing import moved
from plotstead.errors import NoPlot
from plotstead.things import FEWEST_CORNERS
from plotstead.turns import turns_left


# The way through the spots, from the first to the last, that turns left at each corner and has none of them
# to its right. The spots are rising or falling; one where the way doesn't turn left is no corner.
def way_turning_left(spots):
    way = []
    for spot in spots:
        while len(way) > 1 and not turns_left(way[-2], way[-1], spot):
            way.pop()
        way.append(spot)
    return way


# There along the foot and back along the top; where one of them ends the other begins.
def around(spots):
    rising = sorted(set(spots))
    there = way_turning_left(rising)
    back = way_turning_left(list(reversed(rising)))
    corners = there[:-1] + back[:-1]
    if len(corners) < FEWEST_CORNERS:
        raise NoPlot("round spots that all lie on one line there is no plot")
    return tuple(corners)


# Each corner of what is told is a corner of the one and a corner of the other, added, so these sums are enough.
def added(one, other):
    sums = []
    for corner in one:
        sums.extend(moved(other, corner))
    return around(sums)
