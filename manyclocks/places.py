"""Places: where parts are at a time, and when their bars begin."""

from manyclocks.courses import led, moments
from manyclocks.fractions import earlier, less, minus
from manyclocks.paces import last_up_to, reach


def leg_end(course, name, at):
    """The place up to which a leg of the part goes: where it is held next, or the walk's end."""
    run = course.runs[name]
    if at + 1 < len(run.legs):
        return run.legs[at + 1][0]
    stand = course.stand(name)
    return run.route.begins[-1] if stand is None else stand


def place_in_walk(course, name, time):
    """The place of the walk where a part is at a time; None ahead of its begin and once its walk is over."""
    run = course.runs[name]
    if less(time, run.legs[0][2]):
        return None
    over_at = moments(course, name, [run.route.begins[-1]])[0][1]
    if over_at is not None and not less(time, over_at):
        return None
    at = last_up_to([leg[2] for leg in run.legs], time)
    place, under, begin = run.legs[at]
    gone = minus(course.clockwork.place_of(run.route.on, time), under)
    return earlier(reach(run.route.paces, place, gone), leg_end(course, name, at))


def where_of(course, name, time):
    """(number of the bar, place in it) of a part of a course at a time, or None."""
    route = course.runs[name].route
    place = place_in_walk(course, name, time)
    if place is None:
        return None
    # The walk's end is in the last bar, not at the begin of one more.
    number = last_up_to(route.begins[:-1], place)
    return (number, minus(place, route.begins[number]))


def where(score, gives, name, time):
    """(number of the bar, place in it) of a part at a time, None where it is in no bar."""
    return where_of(led(score, gives), name, time)


def begin_of(score, gives, name, number):
    """The time at which a part comes to the begin of the bar of this number, None where it never does."""
    course = led(score, gives)
    begins = course.runs[name].route.begins[:-1]
    if not 0 <= number < len(begins):
        return None
    return moments(course, name, [begins[number]])[0][0]
