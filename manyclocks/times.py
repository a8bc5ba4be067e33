"""The times of parts: when each comes to its places and goes on from them, whoever waits for whom."""

from manyclocks.courses import led, moments


def waits_of(course, name):
    """(early, late) of each wait to which the part comes; late is None where it stands for ever."""
    run = course.runs[name]
    if course.wanted(name) is None:
        return list(run.ended)
    return run.ended + [(run.time, None)]


def waits(score, gives):
    """For each part by its name (early, late) of each wait to which it comes."""
    course = led(score, gives)
    return {name: waits_of(course, name) for name in course.runs}


def early(score, gives, name, place):
    """The time when the part comes to a place, None where it never does."""
    return moments(led(score, gives), name, [place])[0][0]


def late(score, gives, name, place):
    """The time when the part goes on from a place, None where it never does."""
    return moments(led(score, gives), name, [place])[0][1]
