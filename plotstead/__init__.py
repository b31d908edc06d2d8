"""Plotstead: plots on a grid of stakes, counted, cut, and put together."""
