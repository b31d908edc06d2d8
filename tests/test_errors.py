import unittest

from plotstead.errors import NoPlot, NoText, PlotError


class Errors(unittest.TestCase):
    """The interface: errors.py."""

    def test_plot_error_stands_straight_below_value_error(self):
        self.assertEqual(PlotError.__bases__, (ValueError,))

    def test_both_refusals_stand_below_plot_error(self):
        self.assertTrue(issubclass(NoPlot, PlotError))
        self.assertTrue(issubclass(NoText, PlotError))

    def test_neither_refusal_stands_below_the_other(self):
        self.assertFalse(issubclass(NoPlot, NoText))
        self.assertFalse(issubclass(NoText, NoPlot))

    def test_plot_error_stands_below_neither_refusal(self):
        self.assertFalse(issubclass(PlotError, NoPlot))
        self.assertFalse(issubclass(PlotError, NoText))

    def test_they_are_raised_with_free_words_and_taken_as_any_refusal(self):
        for refusal in (PlotError, NoPlot, NoText):
            with self.assertRaises(PlotError) as taken:
                raise refusal("some words")
            self.assertEqual(str(taken.exception), "some words")


if __name__ == "__main__":
    unittest.main()
