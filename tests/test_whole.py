"""0.2, (a) to (f), each over many plots, and with what the stages tell handed from one to the other."""

import itertools
import random
import unittest

from helper import (
    DIAMOND, MORE_STAIRS, NOT_ROUND, PENTAGON, ROUND, ROUND_OF_12, ROUND_OF_13, counted, place, sides, small_plots,
    some_plots, some_round_plots, tightest, twice_signed_area,
)
from plotstead.areas import fence_stakes, inner_stakes, twice_area, where
from plotstead.changing import grown, mirrored, moved, sheared, turned
from plotstead.cutting import cut
from plotstead.reading import read
from plotstead.rounding import added, around
from plotstead.things import is_plot, is_round
from plotstead.writing import written

MANY_CORNERS = (added(ROUND_OF_12, PENTAGON), added(ROUND_OF_13, DIAMOND), ROUND_OF_13, MORE_STAIRS)


def plots_of_reach(reach):
    plots = []
    for corners in range(3, 13):
        plots.extend(some_plots(5, corners, reach) + some_round_plots(5, corners, reach))
    return plots


LITTLE = list(ROUND + NOT_ROUND + MANY_CORNERS) + plots_of_reach(6)
WIDE = plots_of_reach(100)


def measured(plot):
    return twice_area(plot), fence_stakes(plot), inner_stakes(plot)


def changes(plot):
    told = [turned(plot), mirrored(plot), moved(plot, (500, -500)), moved(plot, (-3, 1))]
    return told + [sheared(plot, by) for by in range(-3, 4)]


class Whole(unittest.TestCase):
    def follows_the_rule(self, plot):
        self.assertEqual(twice_area(plot), twice_signed_area(plot), plot)
        self.assertEqual(twice_area(plot), 2 * inner_stakes(plot) + fence_stakes(plot) - 2, plot)

    def test_a_area_and_stakes(self):
        for plot in LITTLE:
            self.follows_the_rule(plot)
            self.assertEqual((inner_stakes(plot), fence_stakes(plot)), counted(plot), plot)
        for plot in WIDE:
            self.follows_the_rule(plot)

    def test_a_area_and_stakes_of_what_is_told(self):
        for plot in LITTLE + WIDE:
            for told in changes(plot) + [grown(plot, 5), around(plot)] + list(cut(plot)):
                self.follows_the_rule(told)
        for one, other in itertools.combinations(ROUND, 2):
            told = added(one, other)
            self.follows_the_rule(told)
            self.assertEqual((inner_stakes(told), fence_stakes(told)), counted(told))

    def test_b_cut(self):
        for plot in LITTLE + WIDE + list(small_plots()):
            parts = cut(plot)
            self.assertEqual(len(parts), len(plot) - 2)
            self.assertEqual({len(part) for part in parts}, {3})
            self.assertLessEqual({corner for part in parts for corner in part}, set(plot))
            self.assertEqual(sum(twice_area(part) for part in parts), twice_area(plot), plot)
            met = [side for part in parts for side in sides(part)]
            self.assertEqual(len(set(met)), len(met), plot)
            self.assertEqual({side for side in met if side[::-1] not in met}, set(sides(plot)), plot)

    def test_b_stakes_of_the_parts(self):
        # A cut is a side of two parts; its stakes, but for the ends, lie within the plot.
        for plot in LITTLE + WIDE:
            parts = cut(plot)
            twice_on_cuts = sum(fence_stakes(part) for part in parts) - fence_stakes(plot)
            on_cuts = twice_on_cuts // 2 - (len(parts) - 1)
            self.assertEqual(sum(inner_stakes(part) for part in parts) + on_cuts, inner_stakes(plot), plot)

    def test_c_tightest(self):
        luck = random.Random("whole")
        for count in (3, 5, 9, 20):
            for reach in (3, 10, 100):
                for _ in range(10):
                    spots = tuple((luck.randint(-reach, reach), luck.randint(-reach, reach)) for _ in range(count))
                    if len(tightest(spots)) < 3:
                        continue
                    plot = around(spots)
                    self.assertLessEqual(set(plot), set(spots))
                    self.assertEqual([where(plot, spot) for spot in spots], [place(plot, spot) for spot in spots])
                    self.assertNotIn("out", [where(plot, spot) for spot in spots])
                    self.assertTrue(len(plot) > 12 or is_round(plot), plot)

    def test_d_grown(self):
        for plot in LITTLE + WIDE:
            twice, fence, inner = measured(plot)
            for times in range(1, 6):
                within = (twice * times * times - fence * times + 2) // 2
                self.assertEqual(measured(grown(plot, times)), (twice * times * times, fence * times, within), plot)

    def test_d_grown_and_counted(self):
        for plot in LITTLE[::6]:
            twice, fence, inner = measured(plot)
            for times in (2, 3):
                within = (twice * times * times - fence * times + 2) // 2
                self.assertEqual(counted(grown(plot, times)), (within, fence * times), plot)

    def test_e_added(self):
        for m, n in itertools.product(range(3, 13, 3), range(3, 13)):
            for one, other in zip(some_round_plots(3, m, 100), some_round_plots(4, n, 100)):
                told = added(one, other)
                self.assertEqual(fence_stakes(told), fence_stakes(one) + fence_stakes(other), (one, other))
                sums = [(p[0] + q[0], p[1] + q[1]) for p in one for q in other]
                self.assertEqual(told, tightest(sums), (one, other))

    def test_e_no_other_plot_added_tells_the_same(self):
        plots = some_round_plots(10, 5, 10) + some_round_plots(10, 6, 10)
        for one in ROUND:
            self.assertEqual(len({added(one, other) for other in plots}), len(set(plots)))

    def test_f_area_and_stakes_are_kept(self):
        for plot in LITTLE + WIDE:
            for told in changes(plot):
                self.assertEqual(measured(told), measured(plot), plot)

    def test_f_counted(self):
        for plot in LITTLE[::6]:
            for told in changes(plot)[::3]:
                self.assertEqual(counted(told), (inner_stakes(plot), fence_stakes(plot)), plot)

    def test_what_is_told_is_a_plot_that_can_be_written_and_read(self):
        for plot in plots_of_reach(6):
            for told in [turned(plot), mirrored(plot), sheared(plot, 3), grown(plot, 5), moved(plot, (90, -90))]:
                self.assertTrue(is_plot(told), plot)
                self.assertEqual(is_round(told), is_round(plot), plot)
                self.assertEqual(read(written(told)), told)


if __name__ == "__main__":
    unittest.main()
