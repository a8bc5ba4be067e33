"""Written things: the tones and rests of a part's line, and which ones can come next."""

from manyclocks.bars import voice_of
from manyclocks.items import item_length
from manyclocks.lines import line


def written_of(entries):
    """The tones and rests of voice 0 of all bars of a line: (pitches, length, way of its bar)."""
    told = []
    for entry in entries:
        if entry[0] == "bar":
            for place, item in voice_of(entry[1], 0):
                pitches = item[1] if item[0] == "tone" else ()
                told.append((pitches, item_length(item), entry[2]))
    return told


def written(score, name):
    """The written things of a part: (pitches, length, way of its bar)."""
    return written_of(line(score, name))


def bars_next(entries, place):
    """The places of the bars, and of the end, to which goals lead from a place in a line."""
    seen = {}
    left = [place]
    while left:
        at = left.pop()
        if at not in seen:
            seen[at] = True
            if at < len(entries) and entries[at][0] == "turn":
                left.extend(entries[at][1])
    return [at for at in seen if at == len(entries) or entries[at][0] == "bar"]


def nexts_of(entries):
    """For each written thing of a line the rising numbers of those that can come next, the end's among them."""
    firsts = []
    many = 0
    for entry in entries:
        firsts.append(many)
        if entry[0] == "bar":
            many += len(voice_of(entry[1], 0))
    firsts.append(many)
    told = []
    for place, entry in enumerate(entries):
        if entry[0] == "bar":
            told.extend([[number + 1] for number in range(firsts[place], firsts[place + 1] - 1)])
            # From a ring of turns one comes nowhere: that is taken for the end.
            behind = bars_next(entries, place + 1) or [len(entries)]
            told.append(sorted([firsts[at] for at in behind]))
    return told


def nexts(score, name):
    """For each written thing of a part the rising numbers of those that can come next."""
    return nexts_of(line(score, name))
