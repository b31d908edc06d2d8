import copy
import unittest

from helper import (
    BREAKING_ONE, DART, MORE_STAIRS, NOT_ROUND, OTHER_THINGS, ROUND, ROUND_OF_12, ROUND_OF_13, STAIRS, TRIANGLE,
    broken_clauses, nested, some_plots,
)
from plotstead.errors import NoPlot, NoText, PlotError
from plotstead.writing import written


class Writes(unittest.TestCase):
    """1.2: the corners, `X,Y` each, one blank between each two."""

    def test_plots_round_and_not(self):
        self.assertEqual(written(TRIANGLE), "0,0 1,0 0,1")
        self.assertEqual(written(DART), "0,0 4,0 4,4 3,1")
        self.assertEqual(written(((-10, 3), (-6, -8), (6, -8), (10, 3), (0, 10))), "-10,3 -6,-8 6,-8 10,3 0,10")

    def test_twelve_corners(self):
        self.assertEqual(written(STAIRS), "0,0 6,0 6,1 5,1 5,2 4,2 4,3 3,3 3,4 2,4 2,5 0,5")
        self.assertEqual(written(ROUND_OF_12).count(" "), 11)

    def test_a_hundred_either_way(self):
        plot = ((-100, -100), (100, -100), (100, 100), (-100, 100))
        self.assertEqual(written(plot), "-100,-100 100,-100 100,100 -100,100")

    def test_every_number_is_written_in_figures(self):
        for number in range(-100, 100):
            sign = "-" if number < 0 else ""
            figures = sign + str(abs(number))
            self.assertEqual(written(((0, number), (1, number), (0, 100))), f"0,{figures} 1,{figures} 0,100")

    def test_each_corner_is_found_in_its_place(self):
        for corners in range(3, 13):
            for plot in some_plots(10, corners, 100):
                pairs = [part.split(",") for part in written(plot).split(" ")]
                self.assertEqual(pairs, [[str(number) for number in spot] for spot in plot])

    def test_a_text_is_told(self):
        for plot in ROUND + NOT_ROUND:
            self.assertIs(type(written(plot)), str)


class Refuses(unittest.TestCase):
    """1.2: what is no plot isn't written."""

    def refused(self, thing):
        with self.assertRaises(NoPlot) as taken:
            written(thing)
        self.assertIs(type(taken.exception), NoPlot)

    def test_numbers_beyond_a_hundred(self):
        self.refused(((-101, 0), (1, 0), (0, 1)))
        self.refused(((0, -101), (1, 0), (0, 1)))
        self.refused(((0, 0), (101, 0), (0, 1)))
        self.refused(((0, 0), (1, 0), (0, 101)))
        self.refused(((0, 0), (10 ** 5000, 0), (0, 1)))

    def test_too_few_or_too_many_corners(self):
        for corners in ((), ((0, 0),), ((0, 0), (1, 0)), ROUND_OF_13, MORE_STAIRS):
            self.refused(corners)

    def test_each_clause_broken_once(self):
        for clause, corners in BREAKING_ONE.items():
            self.assertEqual(broken_clauses(corners), [clause])
            self.refused(corners)

    def test_other_things(self):
        for thing in OTHER_THINGS:
            self.refused(thing)

    def test_deep_things(self):
        for kind in (list, tuple):
            for depth in (1, 2, 29, 30, 31):
                for core in (0, True, None, "text", (), [], TRIANGLE):
                    deep = nested(depth, kind, core)
                    self.refused(deep)
                    self.refused((deep, deep, deep))
                    self.refused(((0, 0), (1, 0), (0, deep)))

    def test_how_the_refusal_is_taken(self):
        for base in (PlotError, ValueError):
            with self.assertRaises(base):
                written(None)
        with self.assertRaises(NoPlot):
            try:
                written(None)
            except NoText:
                self.fail("NoText takes no NoPlot")


class WritesAgain(unittest.TestCase):
    """0.3: what is handed in is not changed; asked the same again, the same is told."""

    def test_the_same_is_told(self):
        first = [written(plot) for plot in ROUND + NOT_ROUND]
        again = [written(plot) for plot in reversed(ROUND + NOT_ROUND)]
        self.assertEqual(first, again[::-1])

    def test_nothing_is_changed(self):
        for thing in ROUND + NOT_ROUND + OTHER_THINGS:
            before = copy.deepcopy(thing)
            for _ in range(2):
                try:
                    written(thing)
                except NoPlot:
                    pass
                self.assertEqual(thing, before)


if __name__ == "__main__":
    unittest.main()
