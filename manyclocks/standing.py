"""Parts that stand for ever, and who waits for whom."""

from manyclocks.courses import led


def call_counts(course):
    """How many calls the walks have by (giver, call), whether come to or not."""
    told = {}
    for name in course.runs:
        for place, mark, number in course.runs[name].route.stops:
            if mark[0] == "call":
                told[(name, mark[1])] = told.get((name, mark[1]), 0) + 1
    return told


def reason(course, counts, name):
    """Why a part stands: (word, names), from it on, each waiting for the next one."""
    names = []
    while name not in names:
        names.append(name)
        giver, call, number = course.wanted(name)
        if number >= counts.get((giver, call), 0):
            return ("lacks", tuple(names))
        # The giver's walk has the call and it was never given: so the giver stands, too.
        name = giver
    return ("ring", tuple(names))


def why_of(course):
    """Why each part stands that stands for ever on a course, by its name."""
    counts = call_counts(course)
    return {name: reason(course, counts, name) for name in course.runs if course.wanted(name) is not None}


def why(score, gives):
    """Why each part stands that stands for ever, by its name."""
    return why_of(led(score, gives))
