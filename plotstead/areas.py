"""The area of a plot, the stakes within it and on its fence, and where a spot lies.

Nothing is refused here: plots may be wider, and have more corners, than things.py allows.
"""

from plotstead.things import sides_of
from plotstead.turns import lies_on, turn, turns_left

MIDDLE = (0, 0)


# Seen from any one spot, each side spans a three-cornered piece; those seen from behind count below 0.
def twice_area(plot):
    return sum([turn(MIDDLE, side[0], side[1]) for side in sides_of(plot)])


def greatest_common_divisor(one, other):
    while other != 0:
        rest = one % other
        one = other
        other = rest
    return one


# Of a side's two ends only one counts, so that all round each corner counts once.
def stakes_along(side):
    across = abs(side[1][0] - side[0][0])
    up = abs(side[1][1] - side[0][1])
    return greatest_common_divisor(across, up)


def fence_stakes(plot):
    return sum([stakes_along(side) for side in sides_of(plot)])


# Twice the area is twice the stakes within, and those on the fence, less two.
def inner_stakes(plot):
    return (twice_area(plot) - fence_stakes(plot) + 2) // 2


def lies_on_fence(plot, spot):
    return any([lies_on(side, spot) for side in sides_of(plot)])


# Whether one who goes level to the right from the spot, which is not on the side, comes through the side.
# The high end is no part of the side here: so a corner that the fence passes on its way up or down counts
# once, one where it turns back counts twice (at the foot) or not at all (at the top), a level side never.
def is_crossed_going_right(side, spot):
    low = side[0]
    high = side[1]
    if low[1] > high[1]:
        low = side[1]
        high = side[0]
    return low[1] <= spot[1] < high[1] and turns_left(low, high, spot)


def where(plot, spot):
    if lies_on_fence(plot, spot):
        return "on"
    crossed = [side for side in sides_of(plot) if is_crossed_going_right(side, spot)]
    return "in" if len(crossed) % 2 == 1 else "out"
