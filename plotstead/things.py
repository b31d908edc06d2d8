"""Which things are spots, which are plots, and which plots are round; a plot's sides and the order of its corners."""

from plotstead.turns import sides_meet, turn, turns_left

FARTHEST = 100
FEWEST_CORNERS = 3
MOST_CORNERS = 12


# To Python a truth is an int as well, so truths are shut out by name.
def is_whole(thing):
    return isinstance(thing, int) and not isinstance(thing, bool)


def is_place(thing):
    return is_whole(thing) and -FARTHEST <= thing <= FARTHEST


def is_spot(thing):
    return isinstance(thing, tuple) and len(thing) == 2 and is_place(thing[0]) and is_place(thing[1])


def are_unlike_spots(thing):
    for part in thing:
        if not is_spot(part):
            return False
    # Only spots are sure to go into a set, so this comes last.
    return len(set(thing)) == len(thing)


def could_be_corners(thing):
    if not isinstance(thing, tuple):
        return False
    return FEWEST_CORNERS <= len(thing) <= MOST_CORNERS and are_unlike_spots(thing)


# An index below 0 counts from the end, which leads the way all round.
def turns_all_round(corners):
    return [turn(corners[k - 2], corners[k - 1], corners[k]) for k in range(len(corners))]


def sides_of(corners):
    return [(corners[k - 1], corners[k]) for k in range(len(corners))]


# The same way round, begun as a plot's corners begin.
def least_first(corners):
    start = corners.index(min(corners))
    return tuple(corners[start:] + corners[:start])


def have_common_corner(one, other):
    return one[0] in other or one[1] in other


def sides_keep_apart(corners):
    sides = sides_of(corners)
    for k, side in enumerate(sides):
        for other in sides[:k]:
            if not have_common_corner(side, other) and sides_meet(side, other):
                return False
    return True


# The whole plot lies to one hand of its least corner, so this corner always points outwards:
# where no sides meet, the turn there tells on which hand the inside is.
def inside_is_left(corners):
    return turns_left(corners[-1], corners[0], corners[1])


def is_plot(thing):
    if not could_be_corners(thing) or thing[0] != min(thing):
        return False
    if 0 in turns_all_round(thing):
        return False
    return inside_is_left(thing) and sides_keep_apart(thing)


# A way that turns left all along may still go round more than once, so it must be a plot first.
def is_round(thing):
    return is_plot(thing) and min(turns_all_round(thing)) > 0
