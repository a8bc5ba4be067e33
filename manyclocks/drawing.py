"""Parts drawn out of a score, and scores put together."""

from manyclocks.courses import led
from manyclocks.errors import Unlike
from manyclocks.fractions import by_times
from manyclocks.things import uses_of


def needed(names, needs):
    """All names that are needed, by way of others too, as the keys of a dict; needs goes from names to lists."""
    told = {}
    left = list(names)
    while left:
        name = left.pop()
        if name not in told:
            told[name] = True
            left.extend(needs[name])
    return told


def named(rows, names):
    """Those of the rows whose names are among these."""
    return tuple([row for row in rows if row[0] in names])


def drawn(score, names):
    """The score of the parts of these names alone, with the clocks and phrases that they need."""
    clocks, phrases, parts = score
    kept = named(parts, names)
    above = {clock[0]: [] if clock[1] is None else [clock[1]] for clock in clocks}
    inner = {name: uses_of(things) for name, things in phrases}
    hung = needed([part[1] for part in kept if part[1] is not None], above)
    used = needed([name for part in kept for name in uses_of(part[3])], inner)
    return (named(clocks, hung), named(phrases, used), kept)


def joined_sort(rows):
    """Rows of one sort, each name once, sorted; refused with Unlike where two of one name are unlike."""
    told = {}
    for row in rows:
        if told.setdefault(row[0], row) != row:
            raise Unlike("two scores have unlike things of one sort by one name")
    return tuple([told[name] for name in sorted(told)])


def together(scores):
    """One score with all that is in any of them."""
    return tuple([joined_sort([row for score in scores for row in score[sort]]) for sort in range(3)])


def awaited(course, names):
    """What the walks of the parts of these names wait for, whether come to or not: keys (giver, call)."""
    told = {}
    for name in names:
        for place, mark, number in course.runs[name].route.stops:
            if mark[0] == "wait":
                told[mark[1:]] = True
    return told


def wants(score, gives, names):
    """The gives with which the parts of these names, drawn out, sound as in the score."""
    course = led(score, gives)
    told = [give for give in gives if give[1] not in course.runs]
    for giver, call in awaited(course, names):
        if giver in course.runs and giver not in names:
            times = course.given.get((giver, call), [])
            told.extend([(time, giver, call) for time in times])
    return by_times(told, 1)
