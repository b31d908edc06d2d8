import copy
import itertools
import random
import unittest

from helper import (
    DIAMOND, NOT_ROUND, PENTAGON, ROUND, ROUND_OF_12, ROUND_OF_13, SQUARE, TRIANGLE, added_by_steps, broken_clauses,
    cross, less, place, round_by_sides, shifted, sides, small_plots, some_round_plots, spots_of, tightest,
    twice_signed_area, twin,
)
from plotstead.areas import fence_stakes, twice_area
from plotstead.errors import NoPlot, PlotError
from plotstead.rounding import added, around

ON_ONE_LINE = {
    "one spot": ((3, -4),),
    "one spot twice": ((3, -4), (3, -4)),
    "one spot twenty times": ((0, 0),) * 20,
    "two spots": ((1, 2), (-3, 5)),
    "two spots, some twice": ((1, 2), (-3, 5), (1, 2), (-3, 5), (1, 2)),
    "level": ((5, 7), (-100, 7), (100, 7), (0, 7)),
    "upright": ((7, 5), (7, -100), (7, 100), (7, 0)),
    "level through the middle": tuple((x, 0) for x in range(-10, 10)),
    "upright through the middle": tuple((0, y) for y in range(-10, 10)),
    "rising": tuple((x, x) for x in range(-50, 50, 5)),
    "falling": tuple((x, 3 - x) for x in range(-50, 50, 5)),
    "steep": ((0, 0), (1, 7), (-2, -14), (3, 21)),
    "gentle": ((0, 0), (7, -1), (-14, 2), (21, -3), (7, -1)),
    "far apart": ((-100, -100), (99, 99), (100, 100)),
}
# All of them corners: as many as there may be spots.
TWENTY_CORNERS = tuple([(x, x * x) for x in range(-5, 6)] + [(x, 52 - x * x) for x in range(4, -5, -1)])


def some_spots(luck, count, reach):
    return tuple((luck.randint(-reach, reach), luck.randint(-reach, reach)) for _ in range(count))


def on_one_line(spots):
    return all(cross(less(b, spots[0]), less(c, spots[0])) == 0 for b in spots for c in spots)


def sums(one, other):
    return [(p[0] + q[0], p[1] + q[1]) for p in one for q in other]


def scaled(corners, times):
    return tuple((times * x, times * y) for x, y in corners)


class Rounding(unittest.TestCase):
    def of_a_round_plot(self, plot):
        self.assertIs(type(plot), tuple)
        self.assertEqual({(type(spot), len(spot)) for spot in plot}, {(tuple, 2)})
        self.assertEqual({type(number) for spot in plot for number in spot}, {int})
        self.assertGreaterEqual(len(plot), 3)
        self.assertEqual(broken_clauses(plot), [], plot)
        self.assertTrue(round_by_sides(plot), plot)

    def tight(self, spots):
        plot = around(spots)
        self.of_a_round_plot(plot)
        # 0.2 (c)
        self.assertLessEqual(set(plot), set(spots), spots)
        self.assertNotIn("out", [place(plot, spot) for spot in spots], spots)
        self.assertEqual(plot, tightest(spots), spots)


class Around(Rounding):
    """0.2 (c), 4.1: the tightest round plot."""

    def test_three_spots(self):
        for spots in itertools.permutations(((0, 0), (1, 0), (0, 1))):
            self.assertEqual(around(spots), TRIANGLE)
        for spots in itertools.permutations(((-100, 100), (100, 99), (3, -100))):
            self.assertEqual(around(spots), ((-100, 100), (3, -100), (100, 99)))

    def test_spots_within_are_no_corners(self):
        self.assertEqual(around(((1, 1), (0, 0), (2, 2), (0, 2), (2, 0))), SQUARE)
        self.assertEqual(around(tuple((x, y) for x in range(4) for y in range(5))), ((0, 0), (3, 0), (3, 4), (0, 4)))

    def test_spots_on_a_side_are_no_corners(self):
        rim = ((1, 0), (2, 1), (1, 2), (0, 1))
        self.assertEqual(around(rim + SQUARE), SQUARE)
        self.assertEqual(around(SQUARE + rim), SQUARE)
        self.assertEqual(around(DIAMOND + ((-2, -1), (-1, -2), (1, -2), (2, 1), (1, 2), (-1, 2), (-2, 1))), DIAMOND)
        for plot in ROUND:
            on_sides = [spot for spot in spots_of(plot) if place(plot, spot) == "on"]
            self.assertEqual(around(tuple(on_sides)), plot)
            self.assertEqual(around(tuple(on_sides[::-1])), plot)

    def test_one_spot_off_a_line_is_enough(self):
        self.assertEqual(around(((0, 0), (1, 0), (2, 0), (3, 0), (4, 0), (2, 1))), ((0, 0), (4, 0), (2, 1)))
        self.assertEqual(around(((0, 0), (0, 1), (0, 2), (0, 3), (-1, 1))), ((-1, 1), (0, 0), (0, 3)))
        self.assertEqual(around(((-100, -100), (0, 0), (99, 100), (100, 100))), ((-100, -100), (100, 100), (99, 100)))

    def test_spots_twice(self):
        self.assertEqual(around(SQUARE + SQUARE), SQUARE)
        self.assertEqual(around(((0, 0),) * 9 + ((1, 0),) * 5 + ((0, 1),) * 6), TRIANGLE)
        self.assertEqual(around(((1, 1),) * 8 + DIAMOND * 3), DIAMOND)

    def test_a_round_plot_is_the_tightest_round_its_corners(self):
        for corners in range(3, 13):
            for plot in some_round_plots(10, corners, 100):
                self.assertEqual(around(plot), plot)
                self.assertEqual(around(plot[::-1]), plot)

    def test_the_corners_of_other_plots(self):
        for plot in NOT_ROUND:
            self.tight(plot)

    def test_more_than_twelve_corners(self):
        self.assertEqual((len(TWENTY_CORNERS), len(set(TWENTY_CORNERS))), (20, 20))
        spots = TWENTY_CORNERS[::3] + TWENTY_CORNERS[1::3] + TWENTY_CORNERS[2::3]
        self.assertEqual(around(spots), TWENTY_CORNERS)
        self.tight(spots)
        self.assertEqual(around(ROUND_OF_13[::-1]), ROUND_OF_13)

    def test_twenty_spots(self):
        luck = random.Random("twenty")
        for reach in (1, 2, 3, 5, 10, 100):
            for _ in range(60):
                self.tight(some_spots(luck, 20, reach))

    def test_three_to_nineteen_spots(self):
        luck = random.Random("some")
        for count in range(3, 20):
            for reach in (1, 2, 4, 100):
                for _ in range(15):
                    spots = some_spots(luck, count, reach)
                    if not on_one_line(spots):
                        self.tight(spots)

    def test_the_order_does_not_matter(self):
        luck = random.Random("order")
        for reach in (2, 5, 100):
            for _ in range(20):
                spots = some_spots(luck, 20, reach)
                answers = {around(tuple(luck.sample(spots, 20))) for _ in range(6)}
                self.assertEqual(answers, {around(spots)})
        for spots in itertools.permutations(((0, 0), (2, 0), (1, 0), (0, 2), (1, 1))):
            self.assertEqual(around(spots), ((0, 0), (2, 0), (0, 2)))

    def test_no_round_plot_with_less_area_holds_the_spots(self):
        # Every round plot of this grid, those of more than five corners too.
        grid = [(x, y) for x in range(3) for y in range(3)]
        rounds = [plot for plot in small_plots() if round_by_sides(plot)]
        for count in (6, 7, 8):
            ways = [tightest(chosen) for chosen in itertools.combinations(grid, count)]
            rounds.extend(way for way in ways if len(way) == count)
        held = {plot: set(spots_of(plot)) for plot in rounds}
        for count in range(3, 10):
            for spots in itertools.combinations(grid, count):
                if on_one_line(spots):
                    continue
                areas = sorted((twice_signed_area(plot), plot) for plot in rounds if held[plot] >= set(spots))
                self.assertEqual(around(spots), areas[0][1])
                self.assertTrue(len(areas) == 1 or areas[0][0] < areas[1][0])

    def test_beyond_the_bounds(self):
        luck = random.Random("beyond")
        for count, reach in ((21, 100), (50, 20), (10, 101), (20, 500)):
            for _ in range(10):
                self.tight(some_spots(luck, count, reach))


class OnOneLine(unittest.TestCase):
    """4.1: NoPlot where all spots lie on one line."""

    def refused(self, spots):
        with self.assertRaises(PlotError) as caught:
            around(spots)
        self.assertIs(type(caught.exception), NoPlot, spots)

    def test_spots_on_one_line(self):
        for spots in ON_ONE_LINE.values():
            self.assertTrue(on_one_line(spots))
            self.refused(spots)

    def test_the_order_does_not_matter(self):
        luck = random.Random("line")
        for spots in ON_ONE_LINE.values():
            for _ in range(5):
                self.refused(tuple(luck.sample(spots, len(spots))))

    def test_every_one_and_two_spots_of_a_grid(self):
        grid = [(x, y) for x in range(-2, 3) for y in range(-2, 3)]
        for count in (1, 2):
            for spots in itertools.product(grid, repeat=count):
                self.refused(spots)

    def test_lines_in_all_directions(self):
        for x, y in itertools.product(range(-5, 6), repeat=2):
            self.refused(tuple((3 + k * x, k * y - 7) for k in (2, -4, 0, 9, 5, 2, -1)))

    def test_a_spot_beside_the_line_is_enough(self):
        for spots in ON_ONE_LINE.values():
            if len(set(spots)) > 1:
                self.assertEqual(len(around(spots[:19] + ((97, -61),))), 3)


class Added(Rounding):
    """0.2 (e), 5.2: round plots added."""

    def well_added(self, one, other):
        plot = added(one, other)
        self.of_a_round_plot(plot)
        self.assertEqual(plot, added_by_steps(one, other), (one, other))
        self.assertEqual(plot, tightest(sums(one, other)), (one, other))
        self.assertEqual(plot, added(other, one), (one, other))
        # 0.2 (e)
        self.assertEqual(fence_stakes(plot), fence_stakes(one) + fence_stakes(other), (one, other))

    def test_three_cornered_plots(self):
        self.assertEqual(added(TRIANGLE, TRIANGLE), ((0, 0), (2, 0), (0, 2)))
        upside_down = ((-1, 0), (0, -1), (0, 0))
        self.assertEqual(added(TRIANGLE, upside_down), ((-1, 0), (0, -1), (1, -1), (1, 0), (0, 1), (-1, 1)))
        for one, other in itertools.product(some_round_plots(12, 3, 100) + some_round_plots(12, 3, 3), repeat=2):
            self.well_added(one, other)

    def test_sides_of_one_direction_in_both(self):
        self.assertEqual(added(SQUARE, TRIANGLE), ((0, 0), (3, 0), (3, 2), (2, 3), (0, 3)))
        self.assertEqual(added(SQUARE, ((-5, 1), (2, 1), (2, 2), (-5, 2))), ((-5, 1), (4, 1), (4, 4), (-5, 4)))
        self.assertEqual(len(added(ROUND_OF_12, shifted(ROUND_OF_12, 5, -9))), 12)

    def test_sides_of_one_direction_in_none(self):
        self.assertEqual(
            added(SQUARE, DIAMOND), ((-3, 0), (0, -3), (2, -3), (5, 0), (5, 2), (2, 5), (0, 5), (-3, 2)))
        self.assertEqual(len(added(PENTAGON, DIAMOND)), 9)

    def test_plots_by_name(self):
        for one, other in itertools.product(ROUND, repeat=2):
            self.well_added(one, other)

    def test_up_to_twelve_corners(self):
        most = 0
        for m, n in itertools.combinations_with_replacement(range(3, 13), 2):
            for reach in (9, 100):
                for one, other in zip(some_round_plots(4, m, reach), some_round_plots(5, n, reach)):
                    self.well_added(one, other)
                    most = max(most, len(added(one, other)))
        self.assertGreater(most, 20)

    def test_every_three_and_four_cornered_plot_of_a_small_grid(self):
        rounds = [plot for plot in small_plots() if round_by_sides(plot) and len(plot) < 5]
        for one in rounds[::3]:
            for other in rounds:
                self.assertEqual(added(one, other), added_by_steps(one, other))

    def test_round_all_spots_added_and_tighter_than_any_other(self):
        for one, other in itertools.combinations_with_replacement((TRIANGLE, SQUARE, DIAMOND), 2):
            self.assertEqual(added(one, other), tightest(sums(spots_of(one), spots_of(other))))
            self.assertEqual(set(spots_of(added(one, other))) >= set(sums(spots_of(one), spots_of(other))), True)
        for one, other in zip(some_round_plots(10, 5, 4), some_round_plots(10, 4, 5)):
            self.assertEqual(added(one, other), tightest(sums(spots_of(one), spots_of(other))))

    def test_around_of_all_sums_of_two_corners(self):
        for m, n in ((3, 3), (3, 4), (3, 5), (3, 6), (4, 4), (4, 5)):
            for one, other in zip(some_round_plots(20, m, 50), some_round_plots(21, n, 50)):
                self.assertEqual(added(one, other), around(tuple(sums(one, other))))

    def test_as_far_as_both_together_in_every_direction(self):
        for one, other in zip(some_round_plots(10, 12, 100), some_round_plots(11, 7, 100)):
            plot = added(one, other)
            for a, b in sides(plot) + sides(one) + sides(other):
                along = less(b, a)
                farthest = [max(cross(corner, along) for corner in corners) for corners in (plot, one, other)]
                self.assertEqual(farthest[0], farthest[1] + farthest[2])

    def test_a_plot_added_to_itself(self):
        for plot in ROUND + (ROUND_OF_13,):
            self.assertEqual(added(plot, plot), scaled(plot, 2))
            self.assertEqual(added(added(plot, plot), plot), scaled(plot, 3))
            self.assertEqual(twice_area(added(plot, plot)), 4 * twice_area(plot))

    def test_one_of_them_moved(self):
        for one, other in itertools.product(ROUND, repeat=2):
            for x, y in ((1, 0), (0, -1), (-60, 41), (400, -500)):
                self.assertEqual(added(shifted(one, x, y), other), shifted(added(one, other), x, y))
                self.assertEqual(added(one, shifted(other, x, y)), shifted(added(one, other), x, y))

    def test_numbers_beyond_a_hundred_and_corners_beyond_twelve(self):
        wide = ((-100, -100), (100, -100), (100, 100), (-100, 100))
        self.assertEqual(added(wide, wide), ((-200, -200), (200, -200), (200, 200), (-200, 200)))
        self.assertEqual(added(wide, ((99, 99), (100, 99), (99, 100))), (
            (-1, -1), (200, -1), (200, 199), (199, 200), (-1, 200)))
        more = added(ROUND_OF_13, PENTAGON)
        self.assertGreater(len(more), 13)
        self.well_added(more, DIAMOND)
        self.well_added(more, added(more, PENTAGON))
        self.assertEqual(added(added(SQUARE, DIAMOND), PENTAGON), added(SQUARE, added(DIAMOND, PENTAGON)))


class RoundedAgain(unittest.TestCase):
    """0.3: what is handed in is not changed; asked the same again, the same is told."""

    def test_around(self):
        luck = random.Random("again")
        asked = [some_spots(luck, 20, reach) for reach in (2, 5, 20, 100)]
        before = copy.deepcopy(asked)
        first = [around(spots) for spots in asked]
        again = [around(twin(spots)) for spots in reversed(asked)]
        self.assertEqual(first, again[::-1])
        self.assertEqual(asked, before)

    def test_added(self):
        pairs = list(itertools.product(ROUND, repeat=2))
        before = copy.deepcopy(pairs)
        first = [added(one, other) for one, other in pairs]
        again = [added(twin(one), twin(other)) for one, other in reversed(pairs)]
        self.assertEqual(first, again[::-1])
        self.assertEqual(pairs, before)

    def test_a_refusal_is_told_again(self):
        for spots in ON_ONE_LINE.values():
            for _ in range(2):
                self.assertRaises(NoPlot, around, spots)


if __name__ == "__main__":
    unittest.main()
