"""Marks of pace: how long the beats are, and how far one comes in them."""

from manyclocks.fractions import NOUGHT, ONE, less, minus, over, part, plus, times


def beats_of(place, mark):
    """What one mark tells: (place, how long a beat is from there on), in order."""
    if mark[0] == "pace":
        return [(place, mark[1])]
    low, high, many = mark[1:]
    step = times(minus(high, low), part(1, many))
    told = []
    for number in range(many + 1):
        told.append((plus(place, part(number, 1)), plus(low, times(step, part(number, 1)))))
    return told


def all_beats(marks):
    """What all marks tell: (place, how long a beat is from there on), from nought on, places rising."""
    told = [(NOUGHT, ONE)]
    for place, mark in marks:
        # A mark holds only up to the place of the next one.
        while told and not less(told[-1][0], place):
            told.pop()
        told.extend(beats_of(place, mark))
    return told


def steps_of(marks, place):
    """Rows (begin, end, how long a beat is) from a place on, the last one's end None."""
    beats = all_beats(marks)
    ends = [begin for begin, beat in beats[1:]] + [None]
    told = []
    for (begin, beat), end in zip(beats, ends):
        if end is None or less(place, end):
            told.append((place if less(begin, place) else begin, end, beat))
    return told


def span(marks, one, other):
    """How long all beats are together from one place to a later one."""
    told = NOUGHT
    for begin, end, beat in steps_of(marks, one):
        if less(begin, other):
            stop = other if end is None or less(other, end) else end
            told = plus(told, times(minus(stop, begin), beat))
    return told


def reach(marks, place, span):
    """The place to which one comes from a place by a span."""
    left = span
    far = place
    for begin, end, beat in steps_of(marks, place):
        far = plus(begin, over(left, beat))
        if end is None or less(far, end):
            break
        left = minus(left, times(minus(end, begin), beat))
    return far
