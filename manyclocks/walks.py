"""The walk of a line, and the plain unfolding of repeats and phrases."""

from manyclocks.errors import TooLong
from manyclocks.lines import line, part_things, phrase_things

MOST_BARS = 1000
MOST_TURNS = 4000


def walked(entries):
    """The places of the bars of a line that are walked, in order."""
    told = []
    comings = {}
    turns = 0
    place = 0
    while place < len(entries):
        entry = entries[place]
        if entry[0] == "bar":
            if len(told) == MOST_BARS:
                raise TooLong("a walk has more than 1000 bars")
            told.append(place)
            place += 1
        else:
            if turns == MOST_TURNS:
                raise TooLong("a walk comes to turns more than 4000 times")
            turns += 1
            ahead = comings.get(place, 0)
            comings[place] = ahead + 1
            place = entry[1][ahead % len(entry[1])]
    return told


def walk(score, name):
    """The places in the part's line of the bars walked, in order."""
    return walked(line(score, name))


def unfolded_repeat(phrases, repeat, way):
    """The ways of a repeat's bars: its things many times, behind the k-th time the ending that has k."""
    many, things, endings = repeat[1:]
    body = unfolded_row(phrases, things, way, 0)
    behind = {}
    first = len(things)
    for numbers, ending in endings:
        ways = unfolded_row(phrases, ending, way, first)
        for number in numbers:
            behind[number] = ways
        first += len(ending)
    told = []
    for number in range(1, many + 1):
        told.extend(body)
        told.extend(behind.get(number, []))
    return told


def unfolded_row(phrases, things, way, first):
    """The ways of the bars of a row of things that stand in way, numbered from first on."""
    told = []
    for number, thing in enumerate(things, start=first):
        here = (*way, number)
        if thing[0] == "bar":
            told.append(here)
        elif thing[0] == "use":
            told.extend(unfolded_row(phrases, phrases[thing[1]], here, 0))
        elif thing[0] == "repeat":
            told.extend(unfolded_repeat(phrases, thing, here))
    return told


def unfolded(score, name):
    """Of a part without signs and turns the ways of the bars unfolded; refused just where its walk is."""
    walk(score, name)
    return unfolded_row(phrase_things(score), part_things(score, name), (), 0)
