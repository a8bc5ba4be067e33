"""Meetings: where parts must meet, and the first one where they part."""

from manyclocks.courses import led
from manyclocks.fractions import by_times


def part_meetings(run):
    """The meetings in a part's walk: (x, k, number of the bar, time), time None where it isn't come to."""
    told = []
    counts = {}
    for at, (place, mark, number) in enumerate(run.route.stops):
        if mark[0] == "meet":
            counts[mark[1]] = counts.get(mark[1], 0) + 1
            told.append((mark[1], counts[mark[1]], number, run.done[at] if at < len(run.done) else None))
    return told


def meetings_of(course):
    """Who is to meet: lists of (time, name, number of the bar) by (x, k)."""
    told = {}
    for name in course.runs:
        for word, count, number, time in part_meetings(course.runs[name]):
            told.setdefault((word, count), []).append((time, name, number))
    return told


def parting_of(course):
    """The first meeting of a course where parts part, None where all meet."""
    told = []
    meetings = meetings_of(course)
    for word, count in meetings:
        comers = by_times(meetings[(word, count)], 1)
        others = [comer for comer in comers if comer[0] != comers[0][0]]
        if others:
            told.append((comers[0][0], word, count, comers[0], others[0]))
    if not told:
        return None
    time, word, count, one, other = by_times(told, 1)[0]
    return (word, count, (one[1], one[2], one[0]), (other[1], other[2], other[0]))


def parting(score, gives):
    """The first meeting where parts part, (x, k, one, other), None where all meet."""
    return parting_of(led(score, gives))
