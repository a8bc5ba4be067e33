"""Meetings: where parts must meet, and the first one where they part."""

from manyclocks.courses import led
from manyclocks.fractions import time_order


def part_meetings(run):
    """The meetings in a part's walk: (x, k, number of the bar, time), time None where it isn't come to."""
    told = []
    counts = {}
    for at, (place, mark, number) in enumerate(run.route.stops):
        if mark[0] == "meet":
            counts[mark[1]] = counts.get(mark[1], 0) + 1
            told.append((mark[1], counts[mark[1]], number, run.done[at] if at < len(run.done) else None))
    return told


def meetings_of(course):
    """Who is to meet: lists of (name, number of the bar, time) by (x, k)."""
    told = {}
    for name in course.runs:
        for word, count, number, time in part_meetings(course.runs[name]):
            told.setdefault((word, count), []).append((name, number, time))
    return told


def comer_order(comer):
    """What those who come to a meeting are sorted by: time, then name."""
    return (time_order(comer[2]), comer[0])


def meeting_order(meeting):
    """What meetings where parts part are sorted by: the least time, then x, then k."""
    word, count, one, other = meeting
    return (time_order(one[2]), word, count)


def parting_of(course):
    """The first meeting of a course where parts part, None where all meet."""
    told = []
    meetings = meetings_of(course)
    for word, count in meetings:
        comers = sorted(meetings[(word, count)], key=comer_order)
        others = [comer for comer in comers if comer[2] != comers[0][2]]
        if others:
            told.append((word, count, comers[0], others[0]))
    return min(told, key=meeting_order, default=None)


def parting(score, gives):
    """The first meeting where parts part, (x, k, one, other), None where all meet."""
    return parting_of(led(score, gives))
