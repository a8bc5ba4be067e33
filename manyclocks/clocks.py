"""Clocks that hang on clocks: the times of their places, and their places at times."""

from manyclocks.fractions import NOUGHT, less, minus, plus
from manyclocks.paces import reach, span


def clock_named(score, name):
    """The clock of this name."""
    return {clock[0]: clock for clock in score[0]}[name]


def time_at(score, on, place):
    """The time at which a clock, or time itself where on is None, is at a place."""
    while on is not None:
        name, on, begin, marks = clock_named(score, on)
        place = plus(begin, span(marks, NOUGHT, place))
    return place


def place_at(score, on, time):
    """The place at which a clock, or time itself where on is None, is at a time; None ahead of its place 0."""
    if on is None:
        return time
    name, below, begin, marks = clock_named(score, on)
    place = place_at(score, below, time)
    if place is None or less(place, begin):
        return None
    return reach(marks, NOUGHT, minus(place, begin))
