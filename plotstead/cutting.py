"""A plot cut into three-cornered plots, one after the other cut off from what is left of it.

What is left may have corners at which it goes straight on. Like a plot it always has a piece that comes off:
it could be cut wholly into three-cornered plots, and one of these at least would have two of its sides.
"""

from plotstead.areas import where
from plotstead.things import FEWEST_CORNERS, least_first
from plotstead.turns import turns_left


# Three corners, one behind the other. An index below 0 counts from the end, which leads the way all round.
def piece_at(corners, k):
    return (corners[k - 2], corners[k - 1], corners[k])


# Another corner in the piece would be cut off with it. One on its edge is in the way as well: a cut through
# a corner leaves parts that don't meet side to side.
def comes_off(piece, corners):
    if not turns_left(piece[0], piece[1], piece[2]):
        return False
    for corner in corners:
        if corner not in piece and where(piece, corner) != "out":
            return False
    return True


def first_to_come_off(corners):
    k = 0
    while not comes_off(piece_at(corners, k), corners):
        k += 1
    return piece_at(corners, k)


def cut(plot):
    parts = []
    rest = list(plot)
    while len(rest) > FEWEST_CORNERS:
        piece = first_to_come_off(rest)
        parts.append(least_first(piece))
        rest.remove(piece[1])
    parts.append(least_first(rest))
    return tuple(sorted(parts))
