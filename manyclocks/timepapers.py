"""Papers of times: rows (name, time), one for each wait that ends, each shown by those ahead of it."""

from manyclocks.courses import begun, end_waits
from manyclocks.fractions import is_fraction


def paper(score, gives):
    """A paper of the times of all waits that end."""
    return tuple(end_waits(begun(score, gives)))


def is_due(course, row):
    """Whether the row, of anything, tells the next wait of a part and the time when it ends."""
    if not isinstance(row, tuple) or len(row) != 2:
        return False
    name, time = row
    if not isinstance(name, str) or name not in course.runs:
        return False
    return is_fraction(time) and course.due(name) == time


def shows_times(score, gives, paper):
    """Whether it is a paper of the score's times, of anything."""
    if not isinstance(paper, tuple):
        return False
    course = begun(score, gives)
    for row in paper:
        if not is_due(course, row):
            return False
        course.end_wait(row[0])
    return all(course.due(name) is None for name in course.runs)
