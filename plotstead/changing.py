"""Plots moved, turned, mirrored, sheared and grown.

Nothing is refused here: numbers may go beyond 100, and corners may be more than 12. Whatever the change,
another corner may be the least one afterwards.
"""

from plotstead.things import least_first


def moved(plot, spot):
    return least_first([(corner[0] + spot[0], corner[1] + spot[1]) for corner in plot])


def turned(plot):
    return least_first([(-corner[1], corner[0]) for corner in plot])


# In a mirror the left hand is the right one, so the corners are gone round the other way.
def mirrored(plot):
    return least_first([(-corner[0], corner[1]) for corner in reversed(plot)])


def sheared(plot, by):
    return least_first([(corner[0] + by * corner[1], corner[1]) for corner in plot])


def grown(plot, times):
    return least_first([(times * corner[0], times * corner[1]) for corner in plot])
