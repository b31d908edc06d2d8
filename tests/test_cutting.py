import copy
import unittest

from helper import (
    BARB, BAY, COMB, CROSS, DART, DIAMOND, MORE_STAIRS, NOT_ROUND, ROUND, ROUND_OF_13, SAW, SPIRAL, SQUARE, TRIANGLE,
    TROUGH, added_by_steps, broken_clauses, least_first, place, shifted, sides, small_plots, some_plots,
    some_round_plots, spots_round, twice_signed_area, twin,
)
from plotstead.cutting import cut
from plotstead.things import is_plot

PLOTS = ROUND + NOT_ROUND
WIDE = ((-100, -100), (100, -100), (100, 100), (-100, 100))
# Bays as deep as the numbers allow, with lanes one wide between them.
DEEP_BAYS = (
    (-100, -100), (100, -100), (100, 100), (99, -99), (1, 100), (0, -99),
    (-1, 100), (-2, -98), (-50, 100), (-98, -99), (-99, 100), (-100, 99),
)
LONG_SAW = (
    (-100, -100), (100, -100), (100, 99), (80, -99), (60, 99), (40, -99),
    (20, 99), (0, -99), (-20, 99), (-40, -99), (-60, 99), (-80, -99),
)


class Cutting(unittest.TestCase):
    def three_cornered_and_rising(self, plot, parts):
        self.assertIs(type(parts), tuple, plot)
        self.assertEqual(len(parts), len(plot) - 2, plot)
        for part in parts:
            self.assertIs(type(part), tuple, plot)
            self.assertEqual((len(part), broken_clauses(part)), (3, []), (plot, part))
            self.assertLessEqual(set(part), set(plot), (plot, part))
        for k in range(1, len(parts)):
            self.assertLess(parts[k - 1], parts[k], plot)

    def side_to_side(self, plot, parts):
        """Each side of a part is one of the plot, or one that another part has the other way, each once."""
        met = [side for part in parts for side in sides(part)]
        self.assertEqual(len(set(met)), len(met), plot)
        unmet = [side for side in met if side[::-1] not in met]
        self.assertEqual(sorted(unmet), sorted(sides(plot)), plot)

    def well_cut(self, plot):
        self.assertEqual(broken_clauses(plot), [], plot)
        parts = cut(plot)
        self.three_cornered_and_rising(plot, parts)
        self.assertEqual(sum(twice_signed_area(part) for part in parts), twice_signed_area(plot), plot)
        self.side_to_side(plot, parts)

    def covered_once(self, plot):
        """Spot by spot, and halfway between spots too."""
        doubled = tuple((2 * x, 2 * y) for x, y in plot)
        parts = [tuple((2 * x, 2 * y) for x, y in part) for part in cut(plot)]
        for spot in spots_round(doubled, 1):
            places = [place(part, spot) for part in parts]
            touched = places.count("in") + places.count("on")
            self.assertLessEqual(places.count("in"), 1 if touched == 1 else 0, (plot, spot))
            self.assertEqual(touched > 0, place(doubled, spot) != "out", (plot, spot))


class Cut(Cutting):
    """0.2 (b), 3.1: three-cornered plots, rising, that cover the plot, and nothing twice."""

    def test_a_plot_of_three_corners_is_its_one_part(self):
        for plot in (TRIANGLE, ((-100, 7), (3, -100), (100, 100)), ((0, 0), (100, 99), (99, 100))):
            self.assertEqual(cut(plot), (plot,))

    def test_a_square_has_two_cuts(self):
        one = (((0, 0), (2, 0), (0, 2)), ((0, 2), (2, 0), (2, 2)))
        other = (((0, 0), (2, 0), (2, 2)), ((0, 0), (2, 2), (0, 2)))
        self.assertIn(cut(SQUARE), (one, other))

    def test_a_dart_has_one_cut(self):
        self.assertEqual(cut(DART), (((0, 0), (4, 0), (3, 1)), ((3, 1), (4, 0), (4, 4))))

    def test_no_cut_goes_through_a_corner(self):
        # From (0, 0) to (4, 4) the way leads through the corner (2, 2), so (2, 2) must be a part's corner there.
        plot = ((0, 0), (4, 0), (4, 4), (2, 2), (0, 3))
        self.well_cut(plot)
        self.assertIn(((2, 2), (4, 0), (4, 4)), cut(plot))
        self.assertIn(((0, 0), (4, 0), (2, 2)), cut(plot))
        self.assertIn(((0, 0), (2, 2), (0, 3)), cut(plot))

    def test_round_plots(self):
        for plot in ROUND + (WIDE,):
            self.well_cut(plot)
        for corners in range(3, 13):
            for plot in some_round_plots(10, corners, 100) + some_round_plots(10, corners, 9):
                self.well_cut(plot)

    def test_plots_that_are_not_round(self):
        for plot in NOT_ROUND:
            self.well_cut(plot)

    def test_deep_bays_and_saws(self):
        for plot in (BAY, COMB, SPIRAL, SAW, DEEP_BAYS, LONG_SAW):
            self.well_cut(plot)

    def test_corners_on_the_line_between_two_others(self):
        for plot in (TROUGH, BARB, CROSS, SAW, BAY):
            self.well_cut(plot)

    def test_every_plot_of_a_small_grid(self):
        for plot in small_plots():
            self.well_cut(plot)

    def test_plots_with_many_corners_on_a_small_grid(self):
        for corners in range(6, 13):
            for plot in some_plots(40, corners, 2) + some_plots(40, corners, 3):
                self.well_cut(plot)

    def test_plots_of_three_to_twelve_corners(self):
        for corners in range(3, 13):
            for plot in some_plots(40, corners, 6) + some_plots(40, corners, 100):
                self.well_cut(plot)

    def test_each_part_is_a_plot(self):
        for plot in PLOTS + (WIDE, DEEP_BAYS, LONG_SAW) + tuple(some_plots(40, 12, 100)):
            for part in cut(plot):
                self.assertTrue(is_plot(part), (plot, part))

    def test_the_way_a_plot_lies_does_not_matter(self):
        # Begun at another corner, the same plots are cut off in another order.
        for plot in PLOTS:
            for a, b, c, d in ((0, -1, 1, 0), (-1, 0, 0, -1), (0, 1, -1, 0), (1, 2, 0, 1), (1, 0, -3, 1)):
                self.well_cut(least_first([(a * x + b * y, c * x + d * y) for x, y in plot]))

    def test_every_spot_is_covered_once(self):
        for plot in PLOTS:
            self.covered_once(plot)
        for corners in range(3, 13):
            for plot in some_plots(2, corners, 5):
                self.covered_once(plot)

    def test_beyond_the_bounds(self):
        for plot in (ROUND_OF_13, MORE_STAIRS, added_by_steps(ROUND_OF_13, DIAMOND)):
            self.assertGreater(len(plot), 12)
            self.well_cut(plot)
        for plot in some_plots(10, 16, 7) + some_plots(10, 16, 500):
            self.well_cut(plot)
        for plot in PLOTS:
            self.well_cut(shifted(plot, 480, -480))


class CutAgain(unittest.TestCase):
    """0.3: what is handed in is not changed; asked the same again, the same is told."""

    def test_nothing_is_changed_and_the_same_is_told(self):
        plots = PLOTS + tuple(some_plots(20, 12, 100))
        before = copy.deepcopy(plots)
        first = [cut(plot) for plot in plots]
        again = [cut(twin(plot)) for plot in reversed(plots)]
        self.assertEqual(first, again[::-1])
        self.assertEqual(plots, before)


if __name__ == "__main__":
    unittest.main()
