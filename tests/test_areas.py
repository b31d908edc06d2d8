import copy
import unittest

from helper import (
    BAY, DART, DIAMOND, MORE_STAIRS, NOT_ROUND, PENTAGON, ROUND, ROUND_OF_12, ROUND_OF_13, SQUARE, STAIRS, TRIANGLE,
    TROUGH, ZIGZAG, broken_clauses, counted, place, shifted, small_plots, some_plots, spots_round, twice_signed_area,
    twin,
)
from plotstead.areas import fence_stakes, inner_stakes, twice_area, where

PLOTS = ROUND + NOT_ROUND
FAR = ((93, -90), (-88, 79), (480, 470), (-480, 470), (-470, -480), (470, -480))
WIDEST = ((-500, -500), (500, -500), (500, 500), (-500, 500))
HALF_OF_WIDEST = ((-500, -500), (500, -500), (-500, 500))
# Long and low, so that its stakes can be counted one by one.
LOW = ((-500, -499), (-3, -500), (500, -500), (499, -497), (1, -498), (-498, -496))


class Measured(unittest.TestCase):
    def measures(self, plot, twice, fence, inner):
        told = [twice_area(plot), fence_stakes(plot), inner_stakes(plot)]
        self.assertEqual(told, [twice, fence, inner], plot)
        self.assertEqual([type(number) for number in told], [int, int, int])

    def measured_as_counted(self, plot):
        inner, fence = counted(plot)
        self.measures(plot, twice_signed_area(plot), fence, inner)
        # 0.2 (a)
        self.assertEqual(twice_area(plot), 2 * inner_stakes(plot) + fence_stakes(plot) - 2, plot)


class Areas(Measured):
    """2.1: twice the area, the stakes on the fence and those within."""

    def test_round_plots(self):
        self.measures(TRIANGLE, 1, 3, 0)
        self.measures(SQUARE, 8, 8, 1)
        self.measures(DIAMOND, 36, 12, 13)
        self.measures(((0, 0), (2, 1), (1, 2)), 3, 3, 1)

    def test_plots_that_are_not_round(self):
        self.measures(DART, 8, 10, 0)
        self.measures(TROUGH, 10, 12, 0)
        self.measures(BAY, 64, 36, 15)
        self.measures(STAIRS, 40, 22, 10)

    def test_sides_that_lie_level_and_upright(self):
        self.measures(((0, 0), (7, 0), (0, 1)), 7, 9, 0)
        self.measures(((0, 0), (1, 0), (0, 7)), 7, 9, 0)

    def test_each_side_of_a_slanted_plot_holds_stakes(self):
        self.measures(((0, 0), (6, 4), (2, 10)), 52, 2 + 2 + 2, 24)

    def test_numbers_of_a_hundred(self):
        self.measures(((-100, -100), (100, -100), (100, 100), (-100, 100)), 80000, 800, 199 * 199)
        self.measures(((-100, -100), (100, 99), (99, 100)), 399, 3, 199)

    def test_numbers_of_five_hundred(self):
        self.measures(WIDEST, 2000000, 4000, 999 * 999)
        self.measures(HALF_OF_WIDEST, 1000000, 3000, 998 * 999 // 2)
        self.measures(((-500, -500), (500, 499), (499, 500)), 1999, 3, 999)

    def test_more_than_twelve_corners(self):
        self.assertEqual((len(ROUND_OF_13), len(MORE_STAIRS)), (13, 13))
        # The step (6, 3) now leads over (4, 1): more by the three-cornered plot (0, 0), (4, 1), (6, 3).
        self.assertEqual(twice_area(ROUND_OF_13), twice_area(ROUND_OF_12) + 6)
        self.measures(MORE_STAIRS, 41, 23, 10)
        for plot in (ROUND_OF_12, ROUND_OF_13, MORE_STAIRS):
            self.measured_as_counted(plot)

    def test_many_more_corners(self):
        # Round, with forty corners: x times x along the foot, and the same upside down along the top.
        foot = [(x, x * x) for x in range(-10, 11)]
        top = [(-x, 210 - x * x) for x in range(-9, 10)]
        plot = tuple(foot + top)
        self.assertEqual((len(plot), broken_clauses(plot)), (40, []))
        self.measures(plot, twice_signed_area(plot), *reversed(counted(plot)))


class Counted(Measured):
    """0.2 (a), 2.1: held against a count spot by spot."""

    def test_the_plots_by_name(self):
        for plot in PLOTS:
            self.measured_as_counted(plot)

    def test_every_plot_of_a_small_grid(self):
        plots = list(small_plots())
        self.assertGreater(len(plots), 300)
        for plot in plots:
            self.measured_as_counted(plot)

    def test_plots_of_three_to_twelve_corners(self):
        for corners in range(3, 13):
            for plot in some_plots(8, corners, 6):
                self.measured_as_counted(plot)

    def test_plots_of_more_corners(self):
        for plot in some_plots(4, 13, 6) + some_plots(4, 16, 7):
            self.measured_as_counted(plot)

    def test_plots_far_from_the_middle(self):
        for x, y in FAR:
            for plot in PLOTS:
                moved = shifted(plot, x, y)
                self.measures(moved, twice_area(plot), fence_stakes(plot), inner_stakes(plot))
            for plot in (PENTAGON, DART, ZIGZAG, BAY) + tuple(some_plots(2, 9, 6)):
                self.measured_as_counted(shifted(plot, x, y))

    def test_a_plot_as_long_as_may_be(self):
        self.assertEqual(broken_clauses(LOW), [])
        self.measured_as_counted(LOW)
        self.measured_as_counted(tuple(sorted(LOW[:3])))

    def test_the_rule_for_wide_plots(self):
        for corners in range(3, 13):
            for plot in some_plots(10, corners, 500):
                self.assertEqual(twice_area(plot), twice_signed_area(plot))
                self.assertEqual(twice_area(plot), 2 * inner_stakes(plot) + fence_stakes(plot) - 2, plot)


class Where(unittest.TestCase):
    """2.2: `in`, `on` or `out`."""

    def lie(self, plot, answer, spots):
        for spot in spots:
            self.assertEqual(where(plot, spot), answer, (plot, spot))

    def as_by_other_means(self, plot, margin):
        for spot in spots_round(plot, margin):
            self.assertEqual(where(plot, spot), place(plot, spot), (plot, spot))

    def test_within(self):
        self.lie(SQUARE, "in", [(1, 1)])
        self.lie(DIAMOND, "in", [(0, 0), (-2, 0), (2, 0), (0, 2), (0, -2), (1, 1)])
        self.lie(BAY, "in", [(1, 1), (4, 1), (1, 5), (7, 5), (1, 2), (7, 2)])

    def test_at_a_corner(self):
        for plot in PLOTS + (ROUND_OF_13, MORE_STAIRS, WIDEST, LOW):
            self.lie(plot, "on", plot)

    def test_on_a_side(self):
        self.lie(SQUARE, "on", [(1, 0), (2, 1), (1, 2), (0, 1)])
        self.lie(DIAMOND, "on", [(-2, -1), (1, -2), (2, 1), (-1, 2)])
        self.lie(BAY, "on", [(4, 0), (8, 3), (7, 6), (6, 4), (4, 2), (2, 5), (1, 6), (0, 3)])

    def test_outside(self):
        self.lie(SQUARE, "out", [(-1, 1), (3, 1), (1, -1), (1, 3), (3, 3), (-1, -1)])
        self.lie(DIAMOND, "out", [(-2, -2), (2, 2), (-2, 2), (2, -2)])
        self.lie(TRIANGLE, "out", [(1, 1), (100, 100), (-100, 0), (500, 500), (-500, -500)])

    def test_outside_at_the_height_of_a_corner(self):
        self.lie(DIAMOND, "out", [(-5, 0), (5, 0), (-5, 3), (5, 3), (-5, -3), (5, -3), (-100, 0), (100, 3)])
        self.lie(ZIGZAG, "out", [(-1, 0), (2, 0), (6, 0), (9, 0), (-1, 4), (9, 4), (-1, 6), (-1, 8), (2, 8), (6, 8)])
        self.lie(DART, "out", [(-1, 1), (2, 1), (-1, 4), (5, 4), (3, 4), (5, 1)])

    def test_outside_below_and_above_a_corner(self):
        self.lie(DIAMOND, "out", [(0, -5), (0, 5), (-3, -1), (-3, 1), (3, -1), (3, 1)])

    def test_outside_beside_a_level_side(self):
        self.lie(SQUARE, "out", [(-1, 0), (3, 0), (-1, 2), (3, 2)])
        self.lie(BAY, "out", [(-1, 0), (9, 0), (-1, 6), (9, 6), (-1, 2), (9, 2), (4, 6), (3, 6)])

    def test_outside_beside_an_upright_side(self):
        self.lie(SQUARE, "out", [(0, -1), (0, 3), (2, -1), (2, 3)])
        self.lie(BAY, "out", [(0, 7), (2, 7), (6, 8), (8, -1)])

    def test_outside_in_a_bay(self):
        self.lie(BAY, "out", [(4, 4), (3, 3), (5, 5), (3, 6), (4, 6), (4, 7)])
        self.lie(DART, "out", [(2, 1), (3, 2), (3, 3), (2, 2)])
        self.lie(ZIGZAG, "out", [(2, 1), (2, 3), (6, 2), (2, 7), (6, 7)])

    def test_every_spot_round_the_plots_by_name(self):
        for plot in PLOTS + (ROUND_OF_13, MORE_STAIRS):
            self.as_by_other_means(plot, 2)

    def test_every_spot_round_every_plot_of_a_small_grid(self):
        for plot in small_plots():
            self.as_by_other_means(plot, 1)

    def test_every_spot_round_plots_of_three_to_sixteen_corners(self):
        for corners in range(3, 17):
            for plot in some_plots(4, corners, 6):
                self.as_by_other_means(plot, 1)

    def test_far_from_the_middle(self):
        for x, y in FAR:
            for plot in (PENTAGON, DART, ZIGZAG, BAY):
                self.as_by_other_means(shifted(plot, x, y), 1)

    def test_numbers_of_five_hundred(self):
        self.lie(WIDEST, "in", [(0, 0), (499, 499), (-499, 499), (-499, -499), (499, -499)])
        self.lie(WIDEST, "on", [(500, 0), (-500, 0), (0, 500), (0, -500), (499, 500)])
        self.lie(WIDEST, "out", [(501, 0), (-501, 0), (0, 501), (0, -501), (501, 500), (-501, -500)])
        self.lie(HALF_OF_WIDEST, "in", [(-1, 0), (0, -1), (-499, 498)])
        self.lie(HALF_OF_WIDEST, "on", [(0, 0), (-499, 499), (499, -499)])
        self.lie(HALF_OF_WIDEST, "out", [(1, 0), (0, 1), (500, 500), (500, -499)])
        self.as_by_other_means(LOW, 1)

    def test_where_tells_as_many_as_are_counted(self):
        for plot in PLOTS + (ROUND_OF_13, MORE_STAIRS):
            told = [where(plot, spot) for spot in spots_round(plot, 3)]
            self.assertEqual((told.count("in"), told.count("on")), (inner_stakes(plot), fence_stakes(plot)))


class MeasuredAgain(unittest.TestCase):
    """0.3: what is handed in is not changed; asked the same again, the same is told."""

    def asked(self, plot):
        answers = [twice_area(plot), fence_stakes(plot), inner_stakes(plot)]
        return answers + [where(plot, spot) for spot in spots_round(plot, 1)]

    def test_nothing_is_changed_and_the_same_is_told(self):
        plots = PLOTS + (ROUND_OF_13, MORE_STAIRS)
        before = copy.deepcopy(plots)
        first = [self.asked(plot) for plot in plots]
        again = [self.asked(plot) for plot in reversed(plots)]
        self.assertEqual(first, again[::-1])
        self.assertEqual(plots, before)

    def test_equal_plots_are_told_equally(self):
        for plot in PLOTS:
            self.assertEqual(self.asked(twin(plot)), self.asked(plot))


if __name__ == "__main__":
    unittest.main()
