"""Manyclocks: scores whose parts have each a clock of their own, led to one time."""
