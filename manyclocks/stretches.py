"""Stretches of sounds: what sounds from one time to another."""

from manyclocks.fractions import NOUGHT, by_times, less, minus


def stretch(told, one, other):
    """What of the told sounds is between one time and a later one, moved so that the first time is nought."""
    cut = []
    for begin, end, name, voice, pitches in told:
        if less(begin, other) and (end is None or less(one, end)):
            first = minus(begin, one) if less(one, begin) else NOUGHT
            last = minus(other if end is None or less(other, end) else end, one)
            cut.append((first, last, name, voice, pitches))
    return by_times(cut, 2)
