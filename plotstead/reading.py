"""The plot of which a text is the writing."""

from plotstead.errors import NoText
from plotstead.things import FARTHEST, is_plot
from plotstead.writing import written

FIGURES = "0123456789"


# Python takes more for figures than those ten, blanks and underscores beside them too.
def are_figures(text):
    return text != "" and all([sign in FIGURES for sign in text])


# More figures than the farthest place has are never right, and of very many Python makes no number at all.
def read_number(text):
    figures = text[1:] if text.startswith("-") else text
    if not are_figures(figures) or len(figures) > len(str(FARTHEST)):
        raise NoText("a number is not written as it should be")
    return int(text)


def read_spot(text):
    parts = text.split(",")
    if len(parts) != 2:
        raise NoText("a corner is not written as two numbers with a comma between")
    return (read_number(parts[0]), read_number(parts[1]))


# A number can still have a nought ahead, or a nought a sign: writing the plot anew brings this out.
def read(text):
    corners = tuple([read_spot(part) for part in text.split(" ")])
    if not is_plot(corners):
        raise NoText("the corners in the text are those of no plot")
    if written(corners) != text:
        raise NoText("a number in the text has a nought or a sign too many")
    return corners
