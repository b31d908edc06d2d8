"""How three spots turn, and whether two sides meet. A side is a pair of spots."""


def turn(a, b, c):
    return (b[0] - a[0]) * (c[1] - a[1]) - (b[1] - a[1]) * (c[0] - a[0])


def turns_left(a, b, c):
    return turn(a, b, c) > 0


def turns_right(a, b, c):
    return turn(a, b, c) < 0


def lies_between(one, other, number):
    return min(one, other) <= number <= max(one, other)


# The ends of the side lie on it too.
def lies_on(side, spot):
    a = side[0]
    b = side[1]
    if turn(a, b, spot) != 0:
        return False
    # Both are asked: x alone says nothing of an upright side, nor y of a level one.
    return lies_between(a[0], b[0], spot[0]) and lies_between(a[1], b[1], spot[1])


# Whether the line through a and b runs between c and d, through neither.
def line_parts(a, b, c, d):
    if turns_left(a, b, c):
        return turns_right(a, b, d)
    return turns_right(a, b, c) and turns_left(a, b, d)


# Two sides that meet either cross, or an end of one of them lies on the other.
def sides_meet(one, other):
    if lies_on(one, other[0]) or lies_on(one, other[1]):
        return True
    if lies_on(other, one[0]) or lies_on(other, one[1]):
        return True
    return line_parts(one[0], one[1], other[0], other[1]) and line_parts(other[0], other[1], one[0], one[1])
