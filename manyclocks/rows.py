"""Rows of voices: sounds and silences from time nought on, without gaps."""

from manyclocks.courses import led, moments
from manyclocks.fractions import NOUGHT
from manyclocks.sounds import voice_sounds


def row_of(course, name, voice):
    """The row of a voice of a part on a course."""
    stop = moments(course, name, [course.runs[name].route.begins[-1]])[0][1]
    told = []
    at = NOUGHT
    for begin, end, pitches in voice_sounds(course, name, voice):
        if at != begin:
            told.append((at, begin, ()))
        told.append((begin, end, pitches))
        at = end
    # A sound without an end is the last one, and then the walk's end isn't come to either.
    if at != stop:
        told.append((at, stop, ()))
    return told


def row(score, gives, name, voice):
    """The row of a voice of a part: (begin, end, pitches), pitches () for silence."""
    return row_of(led(score, gives), name, voice)
