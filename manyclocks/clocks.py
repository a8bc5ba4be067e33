"""Clocks that hang on clocks: the times of their places, and their places at times."""

from manyclocks.fractions import less, minus, plus
from manyclocks.paces import Beats


class Clockwork:
    """Clocks with their beats: what is asked of them over and over is reckoned once."""

    def __init__(self, clocks):
        self.hung = {name: (on, begin, Beats(marks)) for name, on, begin, marks in clocks}

    def time_of(self, on, place):
        """The time at which a clock, or time itself where on is None, is at a place."""
        while on is not None:
            on, begin, beats = self.hung[on]
            place = plus(begin, beats.span_to(place))
        return place

    def place_of(self, on, time):
        """The place at which a clock, or time itself where on is None, is at a time; None ahead of its place 0."""
        if on is None:
            return time
        below, begin, beats = self.hung[on]
        place = self.place_of(below, time)
        if place is None or less(place, begin):
            return None
        return beats.place_by(minus(place, begin))


def time_at(score, on, place):
    """The time at which a clock, or time itself where on is None, is at a place."""
    return Clockwork(score[0]).time_of(on, place)


def place_at(score, on, time):
    """The place at which a clock, or time itself where on is None, is at a time; None ahead of its place 0."""
    return Clockwork(score[0]).place_of(on, time)
