import re
import unittest

from helper import (
    BREAKING_ONE, DART, MORE_STAIRS, NOT_ROUND, ROUND, ROUND_OF_12, ROUND_OF_13, SQUARE, STAIRS, TRIANGLE,
    broken_clauses, some_plots,
)
from plotstead.errors import NoPlot, NoText, PlotError
from plotstead.reading import read
from plotstead.writing import written

NUMBER = r"(?:0|-?[1-9][0-9]*)"
SIGNS = [chr(code) for code in range(ord(" "), ord("~") + 1)] + ["\t", "\n", "\r"]


def spelled(corners):
    """Written like a plot, whether it is one or not."""
    return " ".join("%d,%d" % corner for corner in corners)


def plot_written_as(text):
    """The plot, or None, by a pattern for the signs and other means for the corners."""
    if not re.fullmatch(f"{NUMBER},{NUMBER}(?: {NUMBER},{NUMBER}){{2,11}}", text):
        return None
    numbers = [int(figures) for figures in re.findall(NUMBER, text)]
    corners = tuple(zip(numbers[::2], numbers[1::2]))
    if min(numbers) < -100 or max(numbers) > 100 or broken_clauses(corners):
        return None
    return corners


class Asked(unittest.TestCase):
    def refused(self, text):
        with self.assertRaises(NoText, msg=repr(text)[:200]) as taken:
            read(text)
        self.assertIs(type(taken.exception), NoText)

    def read_as(self, text, plot):
        told = read(text)
        self.assertEqual(told, plot, text)
        self.assertIs(type(told), tuple)
        for spot in told:
            self.assertIs(type(spot), tuple)
            self.assertEqual([type(number) for number in spot], [int, int])


class Reads(Asked):
    """1.2: a text is read to the plot of which it is the writing."""

    def test_plots_round_and_not(self):
        self.read_as("0,0 1,0 0,1", TRIANGLE)
        self.read_as("0,0 4,0 4,4 3,1", DART)
        self.read_as("-10,3 -6,-8 6,-8 10,3 0,10", ((-10, 3), (-6, -8), (6, -8), (10, 3), (0, 10)))

    def test_twelve_corners(self):
        self.read_as("0,0 6,0 6,1 5,1 5,2 4,2 4,3 3,3 3,4 2,4 2,5 0,5", STAIRS)
        self.read_as(spelled(ROUND_OF_12), ROUND_OF_12)

    def test_a_hundred_either_way(self):
        self.read_as("-100,-100 100,-100 100,100 -100,100", ((-100, -100), (100, -100), (100, 100), (-100, 100)))

    def test_every_number(self):
        for number in range(-100, 100):
            self.read_as(f"0,{number} 1,{number} 0,100", ((0, number), (1, number), (0, 100)))

    def test_what_is_written_is_read_back(self):
        for corners in range(3, 13):
            for plot in some_plots(10, corners, 100):
                self.read_as(written(plot), plot)
        for plot in ROUND + NOT_ROUND:
            self.read_as(written(plot), plot)


class RefusesNumbers(Asked):
    """1.2: numbers in figures, no nought ahead of others, `-` ahead of those below 0; 0.4: to a hundred."""

    def in_each_place(self, number):
        for place in range(6):
            numbers = "0 0 1 0 0 1".split()
            numbers[place] = number
            self.refused("%s,%s %s,%s %s,%s" % tuple(numbers))

    def test_noughts_and_signs_too_many(self):
        for number in ("-0", "00", "01", "-01", "+1", "+0", "000", "001", "-00", "0-", "1-", "--1", "-+1", "010"):
            self.in_each_place(number)

    def test_a_nought_ahead_of_each_number(self):
        for plot in ROUND + NOT_ROUND:
            text = written(plot)
            for found in re.finditer("[0-9]+", text):
                self.refused(text[:found.start()] + "0" + text[found.start():])

    def test_no_figures(self):
        for number in ("", "-", "+", "a", "x1", "1x", "O", "l", "0x1", "1e0", "1.0", ".", "1_0", "_1", "1_", "one", "~"):
            self.in_each_place(number)

    def test_blanks_and_row_ends_beside_figures(self):
        for sign in (" ", "\t", "\n", "\r", "\r\n", "  "):
            for number in ("0", "1", "-1"):
                self.in_each_place(sign + number)
                self.in_each_place(number + sign)
                self.in_each_place("-" + sign + "1")

    def test_one_beyond_a_hundred(self):
        self.assertEqual(plot_written_as("-100,0 1,0 0,1"), ((-100, 0), (1, 0), (0, 1)))
        for text in ("-101,0 1,0 0,1", "0,-101 1,0 0,1", "0,0 101,0 0,1", "0,0 1,0 0,101"):
            self.refused(text)

    def test_very_long_figures(self):
        for length in (4, 5, 20, 1000, 4300, 4301, 5000, 100000):
            for figure in "019":
                self.in_each_place(figure * length)
                self.in_each_place("-" + figure * length)
                self.in_each_place("0" * length + figure)

    def test_signs_that_only_look_like_figures(self):
        for number in ("\u00b2", "\u0661", "\uff11", "\u00bd", "\u2212" + "1"):
            self.in_each_place(number)


class RefusesForms(Asked):
    """1.2: every other text is refused."""

    def test_short_texts(self):
        for text in ("", " ", "  ", "\n", "\t", ",", "-", "0", "0,0", "0,0 1,0", "a", "None", "()", ", , ,"):
            self.refused(text)
        self.refused("((0, 0), (1, 0), (0, 1))")

    def test_something_ahead_or_behind(self):
        for plot in ROUND + NOT_ROUND:
            for more in (" ", "  ", "\t", "\n", "\r\n", ",", ";", "-", " \n", "\n\n", "x"):
                self.refused(more + written(plot))
                self.refused(written(plot) + more)

    def test_something_else_between_corners(self):
        for between in ("", "  ", "   ", "\t", "\n", "\r\n", " \t", ",", ", ", " , ", ";", "-", " -", "/"):
            self.refused(between.join(["0,0", "1,0", "0,1"]))
            self.refused(f"0,0 1,0{between}0,1")
            self.refused(f"0,0{between}1,0 0,1")

    def test_something_else_than_a_comma_within_corners(self):
        for between in ("", " ", "  ", " ,", ", ", " , ", ",,", "\t", ",\t", ",\n", "\n,", ";", ".", ":", "-", ",+", ",--"):
            self.refused(" ".join([f"0{between}0", f"1{between}0", f"0{between}1"]))
            self.refused(f"0,0 1,0 0{between}1")
            self.refused(f"0{between}0 1,0 0,1")

    def test_one_or_three_numbers_in_a_corner(self):
        for corner in ("0", ",", "0,", ",1", "0,1,", ",0,1", "0,1,2", "0,1,0,1"):
            self.refused(f"0,0 1,0 {corner}")
            self.refused(f"{corner} 1,0 0,1")
            self.refused(f"0,0 {corner} 0,1")

    def test_very_long_texts(self):
        self.refused(" " * 100000)
        self.refused("," * 100000)
        self.refused("-" * 100000)
        self.refused(" ".join(["0,0"] * 100000))
        self.refused(written(TRIANGLE) + " " * 100000)

    def test_every_change_of_one_sign(self):
        read_still = 0
        for text in (written(TRIANGLE), written(DART), "-10,3 -6,-8 10,-10 0,100"):
            changed = []
            for k in range(len(text) + 1):
                changed.append(text[:k] + text[k + 1:])
                for sign in SIGNS:
                    changed.append(text[:k] + sign + text[k:])
                    changed.append(text[:k] + sign + text[k + 1:])
            for other in changed:
                plot = plot_written_as(other)
                if plot is None:
                    self.refused(other)
                else:
                    self.read_as(other, plot)
                    read_still += 1
        self.assertGreater(read_still, 100)


class RefusesCorners(Asked):
    """1.2: the writing of corners that are no plot is the writing of none."""

    def test_each_clause_broken_once(self):
        for clause, corners in BREAKING_ONE.items():
            self.assertEqual(broken_clauses(corners), [clause])
            self.refused(spelled(corners))

    def test_another_corner_first(self):
        for plot in ROUND + NOT_ROUND:
            for start in range(1, len(plot)):
                self.refused(spelled(plot[start:] + plot[:start]))

    def test_the_inside_to_the_right(self):
        for plot in ROUND + NOT_ROUND:
            self.refused(spelled(plot[:1] + plot[:0:-1]))

    def test_too_few_corners(self):
        self.refused(spelled(TRIANGLE[:1]))
        self.refused(spelled(TRIANGLE[:2]))

    def test_too_many_corners(self):
        for corners in (ROUND_OF_13, MORE_STAIRS):
            self.assertEqual((len(corners), broken_clauses(corners)), (13, []))
            self.refused(spelled(corners))

    def test_the_first_corner_again_at_the_end(self):
        for plot in ROUND + NOT_ROUND:
            self.refused(spelled(plot + plot[:1]))


class Taken(unittest.TestCase):
    """The interface: how the refusal is taken."""

    def test_by_its_bases(self):
        for base in (PlotError, ValueError):
            with self.assertRaises(base):
                read("")

    def test_not_by_the_other_refusal(self):
        for text in ("", spelled(SQUARE[::-1]), spelled(ROUND_OF_13)):
            with self.assertRaises(NoText):
                try:
                    read(text)
                except NoPlot:
                    self.fail("NoPlot takes no NoText")


class ReadsAgain(Asked):
    """0.3: asked the same again, the same is told."""

    def test_the_same_is_told(self):
        texts = [written(plot) for plot in ROUND + NOT_ROUND]
        first = [read(text) for text in texts]
        for text in ("", "0,0", spelled(ROUND_OF_13)):
            self.refused(text)
            self.refused(text)
        again = [read(text) for text in reversed(texts)]
        self.assertEqual(first, again[::-1])
        self.assertEqual(texts, [written(plot) for plot in ROUND + NOT_ROUND])


if __name__ == "__main__":
    unittest.main()
