"""Changes while a score plays: calls that are given, and new paces of parts and of clocks."""

from manyclocks.clocks import Clockwork
from manyclocks.courses import Course, end_waits
from manyclocks.fractions import NOUGHT, less
from manyclocks.places import place_in_walk
from manyclocks.routes import routes_of
from manyclocks.sounds import sounds_of


def paced_from(marks, place, beat):
    """The marks with a pace behind all those up to its place: so it holds there in their stead."""
    at = len([mark for mark in marks if not less(place, mark[0])])
    return [*marks[:at], (place, ("pace", beat)), *marks[at:]]


class Play:
    """A score with the changes done so far, times never falling.

    clocks has (on, begin, marks) of each clock by its name, marks with the changed paces among them, and so have
    the routes their paces. foremost counts the paces put ahead of the score's own by (word, name). course is how all
    goes by these changes, None where it isn't reckoned yet.
    """

    def __init__(self, score):
        self.clocks = {name: (on, begin, marks) for name, on, begin, marks in score[0]}
        self.routes = routes_of(score)
        self.gives = []
        self.foremost = {}
        self.course = None

    def clockwork_now(self):
        """The clocks with their changes."""
        return Clockwork([(name, *self.clocks[name]) for name in self.clocks])

    def course_now(self):
        """The course by the changes so far, on which each part has come as far as it ever comes."""
        if self.course is None:
            self.course = Course(self.clockwork_now(), self.routes, self.gives)
            end_waits(self.course)
        return self.course

    def paced_ahead(self, key, marks, beat):
        """The marks with a pace ahead of the score's own, behind those put so before."""
        at = self.foremost.get(key, 0)
        self.foremost[key] = at + 1
        return [*marks[:at], (NOUGHT, ("pace", beat)), *marks[at:]]

    def pace_part(self, time, name, beat):
        """From its place at that time on a beat of the part is so long."""
        route = self.routes[name]
        course = self.course_now()
        place = place_in_walk(course, name, time)
        if less(time, course.runs[name].legs[0][2]):
            route.paces = self.paced_ahead(("pace", name), route.paces, beat)
        elif place is not None:
            route.paces = paced_from(route.paces, place, beat)

    def pace_clock(self, time, name, beat):
        """From its place at that time on a beat of the clock is so long."""
        on, begin, marks = self.clocks[name]
        place = self.clockwork_now().place_of(name, time)
        if place is None:
            marks = self.paced_ahead(("clock", name), marks, beat)
        else:
            marks = paced_from(marks, place, beat)
        self.clocks[name] = (on, begin, marks)

    def put_change(self, time, deed):
        """One more change, which is a right one."""
        if deed[0] == "give":
            self.gives.append((time, deed[1], deed[2]))
        elif deed[0] == "pace":
            self.pace_part(time, deed[1], deed[2])
        else:
            self.pace_clock(time, deed[1], deed[2])
        self.course = None


def played(score, changes):
    """All sounds of the score played with changes, sorted."""
    play = Play(score)
    for time, deed in changes:
        play.put_change(time, deed)
    return sounds_of(play.course_now())
