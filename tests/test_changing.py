import copy
import unittest

from helper import (
    DART, DIAMOND, MORE_STAIRS, NOT_ROUND, PENTAGON, ROUND, ROUND_OF_12, ROUND_OF_13, SQUARE, TRIANGLE, broken_clauses,
    round_by_sides, sides, small_plots, some_plots, some_round_plots, twin,
)
from plotstead.changing import grown, mirrored, moved, sheared, turned
from plotstead.rounding import added

MANY_CORNERS = (added(ROUND_OF_12, PENTAGON), added(ROUND_OF_13, DIAMOND), added(ROUND_OF_12, added(PENTAGON, DIAMOND)))
PLOTS = ROUND + NOT_ROUND + MANY_CORNERS + (ROUND_OF_13, MORE_STAIRS)
SPOTS = (
    (0, 0), (1, 0), (0, 1), (-1, 0), (0, -1), (37, -12), (100, 100), (-100, 100), (100, -100), (-100, -100),
    (500, 0), (0, -500), (500, 500), (-500, 500), (500, -500), (-500, -500),
)
SHEARS = (-3, -2, -1, 0, 1, 2, 3)
TIMES = (1, 2, 3, 4, 5)


def many_plots():
    plots = list(PLOTS)
    for corners in range(3, 13):
        plots.extend(some_plots(6, corners, 6) + some_plots(6, corners, 100) + some_round_plots(6, corners, 100))
    return plots


class Changing(unittest.TestCase):
    def is_made_of(self, told, plot, change):
        """The changed corners in the order of 0.5, gone round as they were."""
        self.in_order(told)
        ways = [(change(*a), change(*b)) for a, b in sides(plot)]
        self.assertEqual(sorted(sides(told)), sorted(ways), plot)

    def in_order(self, told):
        self.assertIs(type(told), tuple)
        self.assertEqual({(type(spot), len(spot)) for spot in told}, {(tuple, 2)})
        self.assertEqual({type(number) for spot in told for number in spot}, {int})
        self.assertEqual(broken_clauses(told), [], told)


class Moved(Changing):
    """5.1: each corner's x more by the spot's x, y likewise."""

    def test_known_plots(self):
        self.assertEqual(moved(TRIANGLE, (5, -2)), ((5, -2), (6, -2), (5, -1)))
        self.assertEqual(moved(SQUARE, (-500, 500)), ((-500, 500), (-498, 500), (-498, 502), (-500, 502)))
        self.assertEqual(moved(DART, (0, 0)), DART)

    def test_many_plots(self):
        for plot in many_plots():
            for x, y in SPOTS:
                told = moved(plot, (x, y))
                self.is_made_of(told, plot, lambda a, b: (a + x, b + y))

    def test_back_again(self):
        for plot in many_plots():
            for x, y in SPOTS:
                self.assertEqual(moved(moved(plot, (x, y)), (-x, -y)), plot)

    def test_along_and_up_apart(self):
        for plot in PLOTS:
            self.assertEqual(moved(moved(plot, (31, 0)), (0, -400)), moved(plot, (31, -400)))

    def test_beyond_the_bounds(self):
        self.assertEqual(moved(TRIANGLE, (-501, 700)), ((-501, 700), (-500, 700), (-501, 701)))


class Turned(Changing):
    """5.1: the corner (x, y) becomes (-y, x)."""

    def test_known_plots(self):
        self.assertEqual(turned(TRIANGLE), ((-1, 0), (0, 0), (0, 1)))
        self.assertEqual(turned(SQUARE), ((-2, 0), (0, 0), (0, 2), (-2, 2)))
        self.assertEqual(turned(DART), ((-4, 4), (-1, 3), (0, 0), (0, 4)))
        self.assertEqual(turned(DIAMOND), DIAMOND)

    def test_many_plots(self):
        for plot in many_plots():
            self.is_made_of(turned(plot), plot, lambda x, y: (-y, x))

    def test_four_times(self):
        for plot in many_plots():
            twice = turned(turned(plot))
            self.is_made_of(twice, plot, lambda x, y: (-x, -y))
            self.assertEqual(turned(turned(twice)), plot)

    def test_another_corner_is_the_least_one(self):
        others = [plot for plot in many_plots() if turned(plot)[0] != (-plot[0][1], plot[0][0])]
        self.assertGreater(len(others), 100)


class Mirrored(Changing):
    """5.1: the corner (x, y) becomes (-x, y)."""

    def test_known_plots(self):
        self.assertEqual(mirrored(TRIANGLE), ((-1, 0), (0, 0), (0, 1)))
        self.assertEqual(mirrored(SQUARE), ((-2, 0), (0, 0), (0, 2), (-2, 2)))
        self.assertEqual(mirrored(DART), ((-4, 0), (0, 0), (-3, 1), (-4, 4)))
        self.assertEqual(mirrored(DIAMOND), DIAMOND)

    def test_many_plots(self):
        for plot in many_plots():
            self.in_order(mirrored(plot))
            # Gone round the other way, so that the inside is to the left again.
            ways = [((-b[0], b[1]), (-a[0], a[1])) for a, b in sides(plot)]
            self.assertEqual(sorted(sides(mirrored(plot))), sorted(ways), plot)

    def test_twice(self):
        for plot in many_plots():
            self.assertEqual(mirrored(mirrored(plot)), plot)

    def test_mirrored_between_two_turns(self):
        for plot in PLOTS:
            self.assertEqual(turned(mirrored(turned(plot))), mirrored(plot))


class Sheared(Changing):
    """5.1: the corner (x, y) becomes (x + by times y, y)."""

    def test_known_plots(self):
        self.assertEqual(sheared(TRIANGLE, 3), ((0, 0), (1, 0), (3, 1)))
        self.assertEqual(sheared(TRIANGLE, -3), ((-3, 1), (0, 0), (1, 0)))
        self.assertEqual(sheared(SQUARE, 1), ((0, 0), (2, 0), (4, 2), (2, 2)))
        self.assertEqual(sheared(DART, -1), ((0, 0), (4, 0), (0, 4), (2, 1)))
        self.assertEqual(sheared(DART, -2), ((-4, 4), (1, 1), (0, 0), (4, 0)))
        self.assertEqual(sheared(((-100, 100), (100, -100), (100, 100)), 3), ((-200, -100), (400, 100), (200, 100)))

    def test_by_nought(self):
        for plot in many_plots():
            self.assertEqual(sheared(plot, 0), plot)

    def test_many_plots(self):
        for plot in many_plots():
            for by in SHEARS:
                self.is_made_of(sheared(plot, by), plot, lambda x, y: (x + by * y, y))

    def test_back_again(self):
        for plot in many_plots():
            for by in SHEARS:
                self.assertEqual(sheared(sheared(plot, by), -by), plot)

    def test_in_steps(self):
        for plot in PLOTS:
            self.assertEqual(sheared(sheared(sheared(plot, 1), 1), 1), sheared(plot, 3))

    def test_another_corner_is_the_least_one(self):
        for by in (-3, -2, -1, 1, 2, 3):
            others = [plot for plot in many_plots() if sheared(plot, by)[0][1] != plot[0][1]]
            self.assertGreater(len(others), 30, by)

    def test_beyond_the_bounds(self):
        self.assertEqual(sheared(TRIANGLE, 7), ((0, 0), (1, 0), (7, 1)))
        self.assertEqual(sheared(TRIANGLE, -7), ((-7, 1), (0, 0), (1, 0)))


class Grown(Changing):
    """5.1: the corner (x, y) becomes (times x, times y)."""

    def test_known_plots(self):
        self.assertEqual(grown(TRIANGLE, 5), ((0, 0), (5, 0), (0, 5)))
        self.assertEqual(grown(DART, 2), ((0, 0), (8, 0), (8, 8), (6, 2)))
        wide = ((-100, -100), (100, -100), (100, 100), (-100, 100))
        self.assertEqual(grown(wide, 5), ((-500, -500), (500, -500), (500, 500), (-500, 500)))

    def test_once(self):
        for plot in many_plots():
            self.assertEqual(grown(plot, 1), plot)

    def test_many_plots(self):
        for plot in many_plots():
            for times in TIMES:
                self.is_made_of(grown(plot, times), plot, lambda x, y: (times * x, times * y))

    def test_in_steps(self):
        for plot in PLOTS:
            self.assertEqual(grown(grown(plot, 2), 2), grown(plot, 4))

    def test_round_plots_grown_are_added_to_themselves(self):
        for plot in ROUND + MANY_CORNERS:
            self.assertEqual(grown(plot, 2), added(plot, plot))
            self.assertEqual(grown(plot, 3), added(grown(plot, 2), plot))

    def test_beyond_the_bounds(self):
        self.assertEqual(grown(DART, 9), ((0, 0), (36, 0), (36, 36), (27, 9)))


class Changed(Changing):
    """5.1: what holds of all changes."""

    def changes(self, plot):
        told = [turned(plot), mirrored(plot), grown(plot, 2), moved(plot, (-7, 500))]
        return told + [sheared(plot, by) for by in SHEARS]

    def test_every_plot_of_a_small_grid(self):
        for plot in small_plots():
            for told in self.changes(plot):
                self.in_order(told)

    def test_round_plots_stay_round_and_others_do_not_become_so(self):
        for plot in many_plots():
            for told in self.changes(plot):
                self.assertEqual(round_by_sides(told), round_by_sides(plot), plot)

    def test_plots_with_more_than_twelve_corners(self):
        for plot in MANY_CORNERS:
            self.assertGreater(len(plot), 12)
            for told in self.changes(plot) + [moved(plot, (500, -500)), grown(plot, 5)]:
                self.in_order(told)
                self.assertEqual(len(told), len(plot))

    def test_nothing_is_changed_and_the_same_is_told(self):
        # 0.3
        plots = many_plots()
        before = copy.deepcopy(plots)
        first = [self.changes(plot) for plot in plots]
        again = [self.changes(twin(plot)) for plot in reversed(plots)]
        self.assertEqual(first, again[::-1])
        self.assertEqual(plots, before)


if __name__ == "__main__":
    unittest.main()
