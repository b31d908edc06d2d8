"""The writing of a plot."""

from plotstead.errors import NoPlot
from plotstead.things import is_plot


def written_spot(spot):
    x = spot[0]
    y = spot[1]
    return f"{x},{y}"


# The words of the error leave the thing itself out: it may be of any kind, and very deep.
def written(plot):
    if not is_plot(plot):
        raise NoPlot("only a plot can be written")
    return " ".join([written_spot(corner) for corner in plot])
