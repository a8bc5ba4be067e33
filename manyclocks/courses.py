"""Courses: parts led through their routes, from wait to wait, each as far as calls are given."""

from manyclocks.bars import merged
from manyclocks.clocks import Clockwork
from manyclocks.fractions import NOUGHT, later, less, plus
from manyclocks.paces import spans_between
from manyclocks.routes import routes_of


class Run:
    """How far one part has come.

    At time it is at the stop whose number is that of the stops done, or behind the last one, and what it hangs on
    is at under. done has the times at which the stops were done, ended (early, late) of the waits that ended. A leg,
    (place, under, time), is where the part set out: at its begin, and wherever a wait held it.
    """

    def __init__(self, route, time):
        self.route = route
        self.under = route.begin
        self.time = time
        self.spans = spans_between(route.paces, [NOUGHT] + [stop[0] for stop in route.stops])
        self.done = []
        self.ended = []
        self.counts = {}
        self.legs = [(NOUGHT, self.under, self.time)]


class Course:
    """All parts on their ways; given has the times of the calls and gives so far by (giver, call)."""

    def __init__(self, clockwork, routes, gives):
        self.clockwork = clockwork
        self.given = {}
        self.runs = {}
        for time, giver, call in gives:
            if giver not in routes:
                self.put_call(giver, call, time)
        for name in routes:
            route = routes[name]
            self.runs[name] = Run(route, clockwork.time_of(route.on, route.begin))
            self.lead(name)

    def put_call(self, giver, call, time):
        """A call is given."""
        self.given.setdefault((giver, call), []).append(time)

    def come(self, run):
        """The part comes to its next stop, or to none."""
        ahead = run.spans[len(run.done)]
        if ahead != NOUGHT:
            run.under = plus(run.under, ahead)
            run.time = self.clockwork.time_of(run.route.on, run.under)

    def lead(self, name):
        """The part goes on up to its next wait and gives its calls on the way."""
        run = self.runs[name]
        while len(run.done) < len(run.route.stops):
            self.come(run)
            mark = run.route.stops[len(run.done)][1]
            if mark[0] == "wait":
                break
            if mark[0] == "call":
                self.put_call(name, mark[1], run.time)
            run.done.append(run.time)

    def wanted(self, name):
        """What the part waits for: (giver, call, number from 0), None where its waits are over."""
        run = self.runs[name]
        if len(run.done) == len(run.route.stops):
            return None
        word, giver, call = run.route.stops[len(run.done)][1]
        return (giver, call, run.counts.get((giver, call), 0))

    def due(self, name):
        """The time at which the part's wait ends, None where it has none or its call isn't given yet."""
        wanted = self.wanted(name)
        if wanted is None:
            return None
        giver, call, number = wanted
        given = self.given.get((giver, call), [])
        if number >= len(given):
            return None
        return later(self.runs[name].time, given[number])

    def end_wait(self, name):
        """The part's wait, whose call is given, ends; told is when, and the part goes on."""
        run = self.runs[name]
        giver, call, number = self.wanted(name)
        time = self.due(name)
        place = run.route.stops[len(run.done)][0]
        run.ended.append((run.time, time))
        run.done.append(time)
        run.counts[(giver, call)] = number + 1
        if less(run.time, time):
            run.time = time
            run.under = self.clockwork.place_of(run.route.on, time)
            run.legs.append((place, run.under, time))
        self.lead(name)
        return time

    def stand(self, name):
        """The place of the wait at which the part is, None where its waits are over."""
        run = self.runs[name]
        if len(run.done) == len(run.route.stops):
            return None
        return run.route.stops[len(run.done)][0]


def begun(score, gives):
    """A course on which each part has come to its first wait."""
    return Course(Clockwork(score[0]), routes_of(score), gives)


def end_waits(course):
    """Ends all waits that can be ended; told are they, (name, time), in the order in which they were."""
    told = []
    names = list(course.runs)
    before = -1
    while before < len(told):
        before = len(told)
        for name in names:
            while course.due(name) is not None:
                told.append((name, course.end_wait(name)))
    return told


def led(score, gives):
    """A course on which each part has come as far as it ever comes."""
    course = begun(score, gives)
    end_waits(course)
    return course


def moments(course, name, places):
    """Of each of the places, which don't fall, the time when the part comes to it and when it goes on, or None."""
    run = course.runs[name]
    stand = course.stand(name)
    legs = [(place, "leg", under, time) for place, under, time in run.legs[1:]]
    # At one place the part comes there first, is held there then, and goes on at last.
    rows = merged(merged([(place, "early") for place in places], legs), [(place, "late") for place in places])
    spans = spans_between(run.route.paces, [NOUGHT] + [row[0] for row in rows])
    under, time = run.legs[0][1:]
    told = {"early": [], "late": []}
    for row, ahead in zip(rows, spans):
        if stand is not None and (less(stand, row[0]) or row[:2] == (stand, "late")):
            told[row[1]].append(None)
            continue
        if ahead != NOUGHT:
            under = plus(under, ahead)
            time = course.clockwork.time_of(run.route.on, under)
        if row[1] == "leg":
            under, time = row[2:]
        else:
            told[row[1]].append(time)
    return list(zip(told["early"], told["late"]))
