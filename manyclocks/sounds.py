"""Sounds: the tones of all walks, each from its begin to its end in time."""

from manyclocks.bars import MOST_VOICES, voice_of
from manyclocks.courses import led, moments
from manyclocks.fractions import by_times, plus
from manyclocks.items import item_length


def placed_voice(route, voice):
    """The tones and rests of a voice as they are walked: (begin, end, item), places of the walk."""
    # A bar may be walked over and over, but its items are always the same.
    unlike = dict(route.bars)
    rows = {at: voice_of(unlike[at], voice) for at in unlike}
    told = []
    for (at, bar), begin in zip(route.bars, route.begins):
        for offset, item in rows[at]:
            place = plus(begin, offset)
            told.append((place, plus(place, item_length(item)), item))
    return told


def joined(rows):
    """The sounds of a voice, tied tones as one: (begin, end, pitches, held), places of the walk."""
    told = []
    tied = False
    for begin, end, item in rows:
        if item[0] == "rest":
            continue
        word, pitches, length, goes_on, held = item
        # Behind a rest, or a bar that lacks the voice, a tone doesn't begin where the last one ends.
        if tied and told[-1][1:3] == (begin, pitches):
            told[-1] = (told[-1][0], end, pitches, held)
        else:
            told.append((begin, end, pitches, held))
        tied = goes_on
    return told


def voice_sounds(course, name, voice):
    """The sounds of a voice of a part that begin, in their order: (begin, end, pitches), times."""
    rows = joined(placed_voice(course.runs[name].route, voice))
    times = moments(course, name, [place for row in rows for place in row[:2]])
    told = []
    for (begin, end, pitches, held), first, last in zip(rows, times[::2], times[1::2]):
        if first[1] is not None:
            told.append((first[1], last[1] if held else last[0], pitches))
    return told


def sounds_of(course):
    """All sounds of a course, sorted."""
    told = []
    for name in course.runs:
        for voice in range(MOST_VOICES):
            for begin, end, pitches in voice_sounds(course, name, voice):
                told.append((begin, end, name, voice, pitches))
    return by_times(told, 2)


def sounds(score, gives):
    """All sounds, (begin, end, name, voice, pitches), sorted."""
    return sounds_of(led(score, gives))
