"""Names, and the items of which a voice is a row: tones, rests, groups and marks."""

from manyclocks.fractions import (
    NOUGHT, ONE, is_above_nought, is_count, is_rising, is_whole, part, plus, times,
)

# These words have meanings of their own where scores are written.
NO_NAMES = ("from", "on", "time", "end")
MOST_LETTERS = 8
MOST_PITCHES = 6
MOST_NUMBER = 99
MOST_DEEP = 6


def is_name(thing):
    """Whether it is a name, of anything."""
    if not isinstance(thing, str) or not 1 <= len(thing) <= MOST_LETTERS:
        return False
    return thing not in NO_NAMES and all("a" <= letter <= "z" for letter in thing)


def is_form(thing, word, many):
    """Whether it is a tuple of as many things, the first one this word."""
    if not isinstance(thing, tuple) or len(thing) != many:
        return False
    return isinstance(thing[0], str) and thing[0] == word


def is_pitches(thing):
    """Whether it is a tuple of one to six rising whole numbers."""
    if not isinstance(thing, tuple) or not 1 <= len(thing) <= MOST_PITCHES:
        return False
    return all(is_whole(pitch) for pitch in thing) and is_rising(thing)


def is_tone(thing):
    """Whether it is a tone."""
    if not is_form(thing, "tone", 5):
        return False
    if not is_pitches(thing[1]) or not is_above_nought(thing[2]):
        return False
    return isinstance(thing[3], bool) and isinstance(thing[4], bool)


def is_rest(thing):
    """Whether it is a rest."""
    return is_form(thing, "rest", 2) and is_above_nought(thing[1])


def is_signal(thing):
    """Whether it is a call, a wait or a meeting."""
    if is_form(thing, "call", 2) or is_form(thing, "meet", 2):
        return is_name(thing[1])
    return is_form(thing, "wait", 3) and is_name(thing[1]) and is_name(thing[2])


def is_pace_mark(thing):
    """Whether it is a pace or a lean, of anything."""
    if is_form(thing, "pace", 2):
        return is_above_nought(thing[1])
    if not is_form(thing, "lean", 4) or not is_count(thing[3], MOST_NUMBER):
        return False
    return is_above_nought(thing[1]) and is_above_nought(thing[2])


def is_group(thing, deep):
    """Whether it is a group in which groups stand at most so deep, itself counted."""
    if deep == 0 or not is_form(thing, "group", 4):
        return False
    if not is_count(thing[1], MOST_NUMBER) or not is_count(thing[2], MOST_NUMBER):
        return False
    if not isinstance(thing[3], tuple) or len(thing[3]) == 0:
        return False
    return all(is_item_within(item, deep - 1) for item in thing[3])


def is_item_within(thing, deep):
    """Whether it is an item in which groups stand at most so deep."""
    if is_tone(thing) or is_rest(thing):
        return True
    return is_signal(thing) or is_pace_mark(thing) or is_group(thing, deep)


def is_item(thing):
    """Whether it is an item, of anything."""
    return is_item_within(thing, MOST_DEEP)


def is_sound_item(item):
    """Whether an item is a tone or a rest, not a mark or a group."""
    return item[0] == "tone" or item[0] == "rest"


def group_share(group):
    """By what the lengths in a group go."""
    return part(group[2], group[1])


def item_length(item):
    """The length that an item comes to."""
    if item[0] == "tone":
        return item[2]
    if item[0] == "rest":
        return item[1]
    if item[0] == "group":
        return times(length_of(item[3]), group_share(item))
    return NOUGHT


def length_of(items):
    """The length that a row of items comes to."""
    told = NOUGHT
    for item in items:
        told = plus(told, item_length(item))
    return told


def moved_item(item, up, by):
    """The item with its pitches up more and the lengths of its tones and rests times by."""
    if item[0] == "tone":
        pitches = tuple([pitch + up for pitch in item[1]])
        return ("tone", pitches, times(item[2], by), item[3], item[4])
    if item[0] == "rest":
        return ("rest", times(item[1], by))
    if item[0] == "group":
        return ("group", item[1], item[2], moved_items(item[3], up, by))
    return item


def moved_items(items, up, by):
    """The row of items, each of them moved."""
    return tuple([moved_item(item, up, by) for item in items])


def laid_from(place, items, by):
    """The row laid out from a place on, its lengths times by."""
    told = []
    for item in items:
        if item[0] == "group":
            told.extend(laid_from(place, item[3], times(by, group_share(item))))
        else:
            told.append((place, moved_item(item, 0, by)))
        place = plus(place, times(by, item_length(item)))
    return told


def laid(items):
    """Each tone, rest and mark of a row with its place, groups opened."""
    return laid_from(NOUGHT, items, ONE)
