"""The same promises told by other means than the package uses, to hold its answers against."""

from fractions import Fraction


def cross(p, q):
    return p[0] * q[1] - p[1] * q[0]


def less(p, q):
    return (p[0] - q[0], p[1] - q[1])


def share_a_point(p, p_end, q, q_end):
    """Solve p + s * along == q + t * across, with s and t from 0 to 1."""
    along, across, gap = less(p_end, p), less(q_end, q), less(q, p)
    det = cross(along, across)
    if det != 0:
        s = Fraction(cross(gap, across), det)
        t = Fraction(cross(gap, along), det)
        return 0 <= s <= 1 and 0 <= t <= 1
    if cross(gap, along) != 0:
        return False
    # On one line, the order of tuples is the order along the line.
    return max(min(p, p_end), min(q, q_end)) <= min(max(p, p_end), max(q, q_end))


def twice_signed_area(corners):
    return sum(cross(corners[k - 1], corners[k]) for k in range(len(corners)))


def stands_twice(corners):
    return any(corners[k] == corners[m] for k in range(len(corners)) for m in range(k))


def bends(corners):
    """Above 0 where the way bends left, corner by corner."""
    count = len(corners)
    steps = [less(corners[(k + 1) % count], corners[k]) for k in range(count)]
    return [cross(steps[k], steps[(k + 1) % count]) for k in range(count)]


def all_turn_left(corners):
    return min(bends(corners)) > 0


def sides_share_a_point(corners):
    count = len(corners)
    for k in range(count):
        for m in range(count):
            ends = [corners[k], corners[(k + 1) % count], corners[m], corners[(m + 1) % count]]
            if len(set(ends)) == 4 and share_a_point(*ends):
                return True
    return False


def broken_clauses(corners):
    """Which of the clauses of 0.5 that speak of how corners lie are broken; a plot breaks none."""
    broken = {
        "twice": stands_twice(corners),
        "straight": 0 in bends(corners),
        "sides": sides_share_a_point(corners),
        "inside": twice_signed_area(corners) <= 0,
        "least": sorted(corners)[0] != corners[0],
    }
    return [name for name, is_broken in broken.items() if is_broken]


def round_by_sides(corners):
    """Round is what has all other corners to the left of each side's line."""
    count = len(corners)
    if sorted(corners)[0] != corners[0]:
        return False
    for k in range(count):
        a, b = corners[k], corners[(k + 1) % count]
        rest = [corners[m] for m in range(count) if m not in (k, (k + 1) % count)]
        if any(cross(less(b, a), less(c, a)) <= 0 for c in rest):
            return False
    return True
