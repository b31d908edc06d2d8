import itertools
import unittest

from helper import share_a_point
from plotstead.turns import lies_on, line_parts, sides_meet, turn, turns_left, turns_right

SMALL_GRID = [(x, y) for x in range(3) for y in range(3)]


class Turns(unittest.TestCase):
    """0.4: the turn of three spots."""

    def test_the_turn_is_the_number_that_is_told(self):
        self.assertEqual(turn((1, 2), (4, 3), (2, 7)), 14)
        self.assertEqual(turn((1, 2), (2, 7), (4, 3)), -14)
        self.assertEqual(turn((-100, -100), (100, -100), (100, 100)), 40000)
        self.assertEqual(turn((-3, 5), (-7, -2), (4, -6)), 93)

    def test_on_one_line_the_turn_is_nought(self):
        self.assertEqual(turn((0, 0), (2, 1), (4, 2)), 0)
        self.assertEqual(turn((0, 0), (4, 2), (2, 1)), 0)
        self.assertEqual(turn((3, 1), (3, 1), (5, 9)), 0)

    def test_x_goes_right_and_y_goes_up(self):
        self.assertTrue(turns_left((0, 0), (1, 0), (1, 1)))
        self.assertTrue(turns_left((0, 0), (0, 1), (-1, 1)))
        self.assertTrue(turns_right((0, 0), (1, 0), (1, -1)))
        self.assertTrue(turns_right((0, 0), (0, 1), (1, 1)))

    def test_left_is_not_right_and_nought_is_neither(self):
        for a, b, c in itertools.product(SMALL_GRID, repeat=3):
            number = (b[0] - a[0]) * (c[1] - a[1]) - (b[1] - a[1]) * (c[0] - a[0])
            self.assertEqual(turn(a, b, c), number)
            self.assertIs(turns_left(a, b, c), number > 0)
            self.assertIs(turns_right(a, b, c), number < 0)


class Meeting(unittest.TestCase):
    """0.5: whether two sides have a point in common."""

    def test_a_spot_on_a_side(self):
        side = ((1, 1), (7, 4))
        for spot in ((1, 1), (3, 2), (5, 3), (7, 4)):
            self.assertTrue(lies_on(side, spot))
            self.assertTrue(lies_on((side[1], side[0]), spot))

    def test_a_spot_beside_or_beyond_a_side(self):
        for spot in ((-1, 0), (9, 5), (3, 3), (2, 1)):
            self.assertFalse(lies_on(((1, 1), (7, 4)), spot))
        self.assertFalse(lies_on(((0, 0), (3, 0)), (4, 0)))
        self.assertFalse(lies_on(((0, 0), (0, 3)), (0, 4)))

    def test_a_line_parts_two_spots_only_where_it_runs_through_neither(self):
        a, b = (0, 0), (1, 0)
        self.assertTrue(line_parts(a, b, (5, 1), (7, -1)))
        self.assertTrue(line_parts(a, b, (7, -1), (5, 1)))
        for c, d in (((5, 0), (7, 1)), ((5, 0), (7, -1)), ((5, 0), (7, 0)), ((5, 1), (7, 1)), ((5, -1), (7, -1))):
            self.assertFalse(line_parts(a, b, c, d))
            self.assertFalse(line_parts(a, b, d, c))

    def test_every_two_sides_of_a_small_grid(self):
        sides = [(a, b) for a, b in itertools.product(SMALL_GRID, repeat=2) if a != b]
        for one, other in itertools.product(sides, repeat=2):
            self.assertIs(sides_meet(one, other), share_a_point(*one, *other), (one, other))


if __name__ == "__main__":
    unittest.main()
