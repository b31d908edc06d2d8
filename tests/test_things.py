import copy
import itertools
import unittest

from helper import (
    DART, MORE_STAIRS, NOT_ROUND, PENTAGON, ROUND, ROUND_OF_12, ROUND_OF_13, SQUARE, STAIRS, TRIANGLE, TROUGH,
    all_turn_left, broken_clauses, least_first, nested, round_by_sides,
)
from plotstead.things import is_plot, is_round, is_spot


class Asked(unittest.TestCase):
    def told(self, thing, plot, round_plot):
        self.assertIs(is_plot(thing), plot, thing)
        self.assertIs(is_round(thing), round_plot, thing)

    def round_plot(self, thing):
        self.told(thing, True, True)

    def plot_not_round(self, thing):
        self.told(thing, True, False)

    def no_plot(self, thing):
        self.told(thing, False, False)

    def breaks(self, clauses, corners):
        """No plot; of the clauses that speak of how its corners lie, it breaks just these."""
        self.assertEqual(broken_clauses(corners), clauses, corners)
        self.no_plot(corners)


class Ordinary(Asked):
    """0.5, 1.1: plots, round and not."""

    def test_round_plots(self):
        for plot in ROUND:
            self.round_plot(plot)

    def test_plots_that_are_not_round(self):
        for plot in NOT_ROUND:
            self.plot_not_round(plot)

    def test_one_right_turn_at_any_corner_but_the_least_is_enough(self):
        self.plot_not_round(((0, 0), (2, 1), (4, 0), (2, 9)))
        self.plot_not_round(((0, 0), (5, 0), (2, 2), (0, 5)))
        self.plot_not_round(((0, 0), (9, 2), (0, 4), (2, 2)))


class Corners(Asked):
    """0.5: 3 to 12 unlike spots."""

    def test_two_corners_are_too_few(self):
        self.no_plot(())
        self.no_plot(((0, 0),))
        self.no_plot(((0, 0), (1, 0)))

    def test_three_corners_are_enough(self):
        self.round_plot(TRIANGLE)

    def test_twelve_corners_may_be(self):
        self.assertEqual((len(ROUND_OF_12), len(STAIRS)), (12, 12))
        self.round_plot(ROUND_OF_12)
        self.plot_not_round(STAIRS)

    def test_thirteen_corners_are_too_many(self):
        self.assertEqual((len(ROUND_OF_13), len(MORE_STAIRS)), (13, 13))
        self.assertTrue(round_by_sides(ROUND_OF_13))
        self.breaks([], ROUND_OF_13)
        self.breaks([], MORE_STAIRS)

    def test_a_corner_does_not_stand_twice(self):
        self.breaks(["twice"], ((0, 0), (2, 0), (1, 1), (2, 2), (0, 2), (1, 1)))
        self.no_plot(TRIANGLE + TRIANGLE)
        self.no_plot(((0, 0), (0, 0), (1, 0), (0, 1)))
        self.no_plot(((0, 0), (1, 0), (0, 1), (0, 0)))
        self.no_plot(((0, 0), (0, 0), (0, 0)))


class Numbers(Asked):
    """0.4: a spot's numbers go from -100 to 100."""

    def test_a_hundred_either_way_may_be(self):
        self.round_plot(((-100, -100), (100, -100), (100, 100), (-100, 100)))
        for spot in ((-100, 0), (0, -100), (100, 0), (0, 100)):
            self.assertIs(is_spot(spot), True)

    def test_one_beyond_a_hundred_is_too_far(self):
        self.breaks([], ((-101, 0), (1, 0), (0, 1)))
        self.breaks([], ((0, -101), (1, 0), (0, 1)))
        self.breaks([], ((0, 0), (101, 0), (0, 1)))
        self.breaks([], ((0, 0), (1, 0), (0, 101)))
        for spot in ((-101, 0), (0, -101), (101, 0), (0, 101)):
            self.assertIs(is_spot(spot), False)

    def test_far_beyond_is_too_far(self):
        self.no_plot(((0, 0), (10 ** 40, 0), (0, 1)))
        self.no_plot(((0, -(10 ** 40)), (1, 0), (0, 1)))


class StraightOn(Asked):
    """0.5: no three corners, one behind the other, have the turn 0."""

    def test_straight_on_within_the_tuple(self):
        self.breaks(["straight"], ((0, 0), (1, 0), (2, 0), (0, 2)))
        self.breaks(["straight"], ((0, 0), (2, 0), (1, 1), (0, 2)))
        self.breaks(["straight"], ((0, 0), (3, 0), (3, 1), (3, 2), (0, 3)))

    def test_straight_on_over_the_end(self):
        self.breaks(["straight"], ((0, 0), (2, 0), (0, 2), (0, 1)))
        self.breaks(["straight"], ((-4, -4), (3, -4), (4, 4), (1, 1)))

    def test_turned_back(self):
        self.breaks(["straight", "sides"], ((0, 0), (4, 0), (2, 0), (0, 2)))
        self.breaks(["straight", "sides"], ((0, 0), (2, 0), (6, 4), (4, 2), (0, 3)))

    def test_turned_back_over_the_end(self):
        self.breaks(["straight", "sides"], ((0, 0), (4, 0), (4, 2), (2, 0)))
        self.breaks(["straight", "sides"], ((0, 0), (2, 0), (4, 4), (0, 1), (0, 3)))

    def test_three_corners_on_one_line(self):
        self.breaks(["straight", "inside"], ((0, 0), (1, 0), (2, 0)))
        self.breaks(["straight", "inside"], ((0, 0), (2, 4), (1, 2)))


class SidesApart(Asked):
    """0.5: two sides that have no corner in common have no point in common."""

    def test_sides_that_cross(self):
        self.breaks(["sides"], ((0, 0), (3, 1), (3, 0), (0, 4)))
        self.breaks(["sides", "inside"], ((0, 0), (2, 2), (2, 0), (0, 2)))
        self.breaks(["sides"], ((0, 0), (6, 0), (6, 4), (1, -1), (0, 4)))

    def test_the_last_side_crosses_too(self):
        self.breaks(["sides"], ((0, 0), (4, 0), (0, 4), (4, 1), (5, 5)))

    def test_sides_that_touch_at_one_point(self):
        self.breaks(["sides"], ((0, 0), (4, 0), (4, 4), (2, 0), (0, 4)))
        self.breaks(["sides"], ((0, 0), (2, 1), (4, 0), (4, 3), (3, 1), (1, 1), (0, 3)))
        # The least corner itself cannot be run into, but the last side can.
        self.breaks(["sides"], ((0, 0), (4, 0), (0, 2), (4, 4), (0, 4)))

    def test_sides_that_lie_upon_one_another_in_part(self):
        self.breaks(["sides"], ((0, 0), (4, 0), (4, 2), (3, 0), (1, 0), (0, 2)))
        self.breaks(["sides"], ((0, 0), (4, 0), (5, 2), (6, 0), (2, 0), (0, 3)))
        self.breaks(["sides"], ((0, 0), (4, 0), (4, 4), (2, 5), (4, 3), (4, 1), (0, 3)))

    def test_sides_on_one_line_may_keep_apart(self):
        self.plot_not_round(TROUGH)

    def test_a_small_gap_is_enough(self):
        self.plot_not_round(((0, 0), (4, 0), (4, 4), (2, 1), (0, 4)))


class WayRound(Asked):
    """0.5: the inside to the left, the least corner first, once round."""

    def test_the_inside_is_not_to_the_right(self):
        for plot in ROUND + NOT_ROUND:
            self.breaks(["inside"], plot[:1] + plot[:0:-1])

    def test_no_other_corner_than_the_least_stands_first(self):
        for plot in ROUND + NOT_ROUND:
            for start in range(1, len(plot)):
                self.breaks(["least"], plot[start:] + plot[:start])

    def test_of_corners_with_one_x_the_lower_is_the_least(self):
        self.round_plot(((0, -1), (5, 0), (0, 3)))
        self.breaks(["least"], ((0, 3), (0, -1), (5, 0)))

    def test_left_at_each_corner_but_twice_round(self):
        star = least_first([PENTAGON[2 * k % 5] for k in range(5)])
        self.assertTrue(all_turn_left(star))
        self.breaks(["sides"], star)

    def test_left_at_each_corner_with_a_loop_within(self):
        loop = ((0, 0), (9, 0), (9, 9), (1, 8), (3, 3), (6, 3), (6, 6), (0, 5))
        self.assertTrue(all_turn_left(loop))
        self.breaks(["sides"], loop)


class WrongThings(Asked):
    """0.3, 1.1: told of any thing, and nothing is raised."""

    def test_things_that_are_no_tuples(self):
        for thing in (True, False, None, 0, 7, -100, "", "0,0 1,0 0,1", "abc", [], [[]], [None], list(TRIANGLE)):
            self.no_plot(thing)

    def test_a_list_stands_nowhere(self):
        self.no_plot([list(spot) for spot in TRIANGLE])
        self.no_plot(tuple(list(spot) for spot in TRIANGLE))
        for place in range(3):
            for other in ([0, 0], [], [(0, 0)], [[0], [0]]):
                self.no_plot(TRIANGLE[:place] + (other,) + TRIANGLE[place + 1:])

    def test_corners_that_are_no_spots(self):
        others = ((), (0,), (0, 0, 0), None, True, False, 0, "", "00", "0,0", ((0, 0),), ((0, 0), (0, 0)))
        for place in range(3):
            for other in others:
                self.assertIs(is_spot(other), False)
                self.no_plot(TRIANGLE[:place] + (other,) + TRIANGLE[place + 1:])
        self.no_plot(((0,), (1,), (2,)))
        self.no_plot(((0, 0, 0), (1, 0, 0), (0, 1, 0)))
        self.no_plot((0, 1, 2))
        self.no_plot((None, None, None))
        self.no_plot(("00", "10", "01"))

    def test_a_truth_is_no_number(self):
        self.no_plot(((False, 0), (1, 0), (0, 1)))
        self.no_plot(((0, False), (1, 0), (0, 1)))
        self.no_plot(((0, 0), (True, 0), (0, 1)))
        self.no_plot(((0, 0), (1, False), (0, 1)))
        self.no_plot(((0, 0), (1, 0), (False, 1)))
        self.no_plot(((0, 0), (1, 0), (0, True)))

    def test_no_other_thing_is_a_number(self):
        for other in (None, "1", "", (1,), [1], (), []):
            self.no_plot(((0, 0), (other, 0), (0, 1)))
            self.no_plot(((0, 0), (1, 0), (0, other)))

    def test_a_corner_too_many_that_is_no_spot(self):
        for other in (None, [], (), (0,), "0,0", True, [[0]]):
            self.no_plot(TRIANGLE + (other,))
            self.no_plot((other,) + TRIANGLE)

    def test_things_thirty_deep(self):
        for kind in (list, tuple):
            for depth in (1, 2, 29, 30, 31):
                for core in (0, True, None, "text", (), [], TRIANGLE):
                    deep = nested(depth, kind, core)
                    self.no_plot(deep)
                    self.no_plot((deep, deep, deep))
                    self.no_plot(((0, 0), (1, 0), deep))
                    self.no_plot(((0, 0), (1, 0), (0, deep)))
                    self.no_plot(((0, 0), (deep, 0), (0, 1)))


class AskedAgain(Asked):
    """0.3: what is handed in is not changed; asked the same again, the same is told."""

    def test_nothing_is_changed_and_the_same_is_told(self):
        lists = [list(TRIANGLE), [[0, 0], [1, 0], [0, 1]], ([0, 0], [1, 0], [0, 1]), ((0, 0), (1, 0), [0, 1]), [[[]]]]
        for thing in list(ROUND + NOT_ROUND) + lists:
            before = copy.deepcopy(thing)
            answers = [(is_plot(thing), is_round(thing)) for _ in range(3)]
            self.assertEqual(answers, answers[:1] * 3)
            self.assertEqual(thing, before)

    def test_other_questions_between_do_not_matter(self):
        things = list(ROUND + NOT_ROUND) + [TRIANGLE[::-1], SQUARE[::-1], None, [], (), ((0, 0), (True, 0), (0, 1))]
        first = [(is_plot(thing), is_round(thing)) for thing in things]
        again = [(is_plot(thing), is_round(thing)) for thing in reversed(things)]
        self.assertEqual(first, again[::-1])

    def test_equal_things_are_told_equally(self):
        for plot in ROUND + NOT_ROUND:
            twin = tuple([tuple([number + 0 for number in spot]) for spot in plot])
            self.told(twin, is_plot(plot), is_round(plot))


class EveryWay(Asked):
    """0.5: all ways of a few corners on a small grid, held against other means."""

    def hold(self, ways):
        plots = 0
        for way in ways:
            plot = not broken_clauses(way)
            self.told(way, plot, plot and round_by_sides(way))
            # Round is told by two means that must agree, or the test itself is wrong.
            self.assertFalse(round_by_sides(way) and not plot)
            plots += plot
        self.assertGreater(plots, 0)

    def test_three_and_four_corners_with_corners_that_stand_twice(self):
        grid = [(x, y) for x in range(-1, 2) for y in range(-1, 2)]
        self.hold(itertools.product(grid, repeat=3))
        self.hold(itertools.product(grid, repeat=4))

    def test_five_corners(self):
        grid = [(x, y) for x in range(3) for y in range(3)]
        self.hold(itertools.permutations(grid, 5))

    def test_six_corners(self):
        grid = [(x, y) for x in range(3) for y in range(3)]
        self.hold(itertools.permutations(grid, 6))


if __name__ == "__main__":
    unittest.main()
