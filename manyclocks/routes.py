"""Routes: the walks of parts laid out in their places, beats from the begin of the walk on."""

from manyclocks.bars import marks_of
from manyclocks.fractions import NOUGHT, plus
from manyclocks.items import is_pace_mark
from manyclocks.lines import line
from manyclocks.walks import walked


class Route:
    """A part's walk in its places.

    bars are those walked, (place in the line, bar); begins the places where they begin, and behind these the
    walk's end; stops its calls, waits and meetings, (place, mark, number of the bar); paces its marks of
    pace, (place, mark).
    """

    def __init__(self, on, begin, bars):
        self.on = on
        self.begin = begin
        self.bars = bars
        self.begins = [NOUGHT]
        self.stops = []
        self.paces = []

    def put_bar(self, number, bar, marks):
        """The bar of this number, behind those ahead of it."""
        begin = self.begins[-1]
        for offset, mark in marks:
            place = plus(begin, offset)
            if is_pace_mark(mark):
                self.paces.append((place, mark))
            else:
                self.stops.append((place, mark, number))
        self.begins.append(plus(begin, bar[1]))


def route_of(score, part):
    """The route of a part of the score."""
    name, on, begin, things = part
    entries = line(score, name)
    bars = [(at, entries[at][1]) for at in walked(entries)]
    route = Route(on, begin, bars)
    # A bar may be walked over and over, but its marks are always the same.
    unlike = dict(bars)
    marks = {at: marks_of(unlike[at]) for at in unlike}
    for number, (at, bar) in enumerate(bars):
        route.put_bar(number, bar, marks[at])
    return route


def routes_of(score):
    """The routes of all parts by their names."""
    return {part[0]: route_of(score, part) for part in score[2]}
