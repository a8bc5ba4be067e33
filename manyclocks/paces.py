"""Marks of pace: how long the beats are, and how far one comes in them."""

from manyclocks.fractions import NOUGHT, ONE, less, minus, over, part, plus, times


def beats_of(place, mark, end):
    """What one mark tells up to a place, for good where end is None: (place, how long a beat is from there on)."""
    if mark[0] == "pace":
        low, high, many = mark[1], mark[1], 0
    else:
        low, high, many = mark[1:]
    told = []
    for number in range(many + 1):
        begin = plus(place, part(number, 1))
        if end is not None and not less(begin, end):
            break
        share = part(number, max(many, 1))
        told.append((begin, plus(low, times(minus(high, low), share))))
    return told


def all_beats(marks):
    """What all marks tell: (place, how long a beat is from there on), from nought on, places rising."""
    ends = [place for place, mark in marks] + [None]
    told = []
    for (place, mark), end in zip([(NOUGHT, ("pace", ONE)), *marks], ends):
        told.extend(beats_of(place, mark, end))
    return told


def spans_between(marks, places):
    """The span from each of the places, which don't fall, to the next one."""
    beats = all_beats(marks)
    at = 0
    told = []
    for here, other in zip(places, places[1:]):
        total = NOUGHT
        while at + 1 < len(beats) and less(beats[at + 1][0], other):
            end = beats[at + 1][0]
            if less(here, end):
                total = plus(total, times(minus(end, here), beats[at][1]))
                here = end
            at += 1
        told.append(plus(total, times(minus(other, here), beats[at][1])))
    return told


def span(marks, one, other):
    """How long all beats are together from one place to a later one."""
    return spans_between(marks, (one, other))[0]


def reach(marks, place, span):
    """The place to which one comes from a place by a span."""
    beats = all_beats(marks)
    for (begin, beat), (end, behind) in zip(beats, beats[1:]):
        if less(place, end):
            whole = times(minus(end, place), beat)
            if less(span, whole):
                return plus(place, over(span, beat))
            span = minus(span, whole)
            place = end
    return plus(place, over(span, beats[-1][1]))


def last_up_to(worths, worth):
    """The number of the last of rising fractions that isn't above a worth; the first one never is."""
    low = 0
    high = len(worths)
    while high - low > 1:
        middle = (low + high) // 2
        if less(worth, worths[middle]):
            high = middle
        else:
            low = middle
    return low


class Beats:
    """The beats of marks, with the spans from place 0 to their begins, each reckoned once and only where asked for."""

    def __init__(self, marks):
        rows = all_beats(marks)
        self.begins = [begin for begin, beat in rows]
        self.lengths = [beat for begin, beat in rows]
        self.sums = [NOUGHT]

    def put_sum(self):
        """The span to the begin of one more beat."""
        at = len(self.sums)
        whole = times(minus(self.begins[at], self.begins[at - 1]), self.lengths[at - 1])
        self.sums.append(plus(self.sums[-1], whole))

    def span_to(self, place):
        """The span from place 0 to a place."""
        at = last_up_to(self.begins, place)
        while len(self.sums) <= at:
            self.put_sum()
        return plus(self.sums[at], times(minus(place, self.begins[at]), self.lengths[at]))

    def place_by(self, span):
        """The place to which one comes from place 0 by a span."""
        while len(self.sums) < len(self.begins) and not less(span, self.sums[-1]):
            self.put_sum()
        at = last_up_to(self.sums, span)
        return plus(self.begins[at], over(minus(span, self.sums[at]), self.lengths[at]))
