"""The refusals of the program."""


# Any refusal.
class PlotError(ValueError):
    pass


# Something that should have been a plot is none.
class NoPlot(PlotError):
    pass


# A text is not the writing of a plot.
class NoText(PlotError):
    pass
