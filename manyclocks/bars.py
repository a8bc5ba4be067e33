"""Bars: a size, and one to four voices that each come to just that size."""

from manyclocks.fractions import is_above_nought, less, times
from manyclocks.items import is_form, is_item, is_sound_item, laid, length_of, moved_items

MOST_VOICES = 4
MOST_ITEMS = 40


def has_few_items(row):
    """Whether a row has at most forty items, groups and those in them counted."""
    many = 0
    rows = [row]
    while rows:
        items = rows.pop()
        many += len(items)
        # What is counted may be anything yet, and one thing may stand in it over and over: so stop early.
        if many > MOST_ITEMS:
            return False
        for item in items:
            if is_form(item, "group", 4) and isinstance(item[3], tuple):
                rows.append(item[3])
    return True


def is_voice(thing, size):
    """Whether it is a row of items that comes to just size."""
    if not isinstance(thing, tuple) or not has_few_items(thing):
        return False
    return all(is_item(item) for item in thing) and length_of(thing) == size


def is_bar(thing):
    """Whether it is a bar, of anything."""
    if not is_form(thing, "bar", 3) or not is_above_nought(thing[1]):
        return False
    voices = thing[2]
    if not isinstance(voices, tuple) or not 1 <= len(voices) <= MOST_VOICES:
        return False
    return all(is_voice(voice, thing[1]) for voice in voices)


def merged(one, other):
    """Two rows of (place, mark) as one by their places; at one place the first row's come first."""
    told = []
    at = 0
    for row in one:
        while at < len(other) and less(other[at][0], row[0]):
            told.append(other[at])
            at += 1
        told.append(row)
    return told + other[at:]


def marks_of(bar):
    """The marks of all voices with their places: by places, then voices, then their order."""
    told = []
    for voice in bar[2]:
        marks = [(place, item) for place, item in laid(voice) if not is_sound_item(item)]
        told = merged(told, marks)
    return told


def voice_of(bar, voice):
    """The tones and rests of one voice with their places, none where the bar lacks it."""
    if voice >= len(bar[2]):
        return []
    return [(place, item) for place, item in laid(bar[2][voice]) if is_sound_item(item)]


def moved_bar(bar, up, by):
    """The bar with its pitches up more, its size and the lengths of its tones and rests times by."""
    voices = tuple([moved_items(items, up, by) for items in bar[2]])
    return ("bar", times(bar[1], by), voices)
