"""Players: a score played in pieces, from time nought on, with changes while it plays."""

from manyclocks.changes import Play
from manyclocks.errors import NoDeed, NoTime
from manyclocks.fractions import NOUGHT, by_times, is_above_nought, less
from manyclocks.items import is_form, is_name
from manyclocks.sounds import sounds_of


def is_deed(play, thing):
    """Whether it is a deed of a part or a clock that is there, of anything."""
    if is_form(thing, "give", 3):
        return is_name(thing[1]) and is_name(thing[2]) and thing[1] not in play.routes
    if is_form(thing, "pace", 3):
        return is_name(thing[1]) and thing[1] in play.routes and is_above_nought(thing[2])
    if is_form(thing, "clock", 3):
        return is_name(thing[1]) and thing[1] in play.clocks and is_above_nought(thing[2])
    return False


def events_of(sounds):
    """The events of sounds, sorted: when each goes on, and when it goes off if it does."""
    told = []
    for begin, end, name, voice, pitches in sounds:
        told.append((begin, "on", name, voice, pitches))
        if end is not None:
            told.append((end, "off", name, voice, pitches))
    return by_times(told, 1)


class Player:
    """Plays a score. events are all of the score with the changes so far, None where they aren't reckoned yet."""

    def __init__(self, score):
        self.play = Play(score)
        self.time = NOUGHT
        self.log = []
        self.events = None

    def now(self):
        """The player's time."""
        return self.time

    def go(self, time):
        """The events from the player's time on up to a time, at which it is then."""
        if less(time, self.time):
            raise NoTime("this time is ahead of the player's own")
        if self.events is None:
            self.events = events_of(sounds_of(self.play.course_now()))
        told = [event for event in self.events if less(event[0], time) and not less(event[0], self.time)]
        self.time = time
        return told

    def change(self, deed):
        """The deed is done at the player's time."""
        if not is_deed(self.play, deed):
            raise NoDeed("this is no deed of a part or clock that is there")
        self.play.put_change(self.time, deed)
        self.log.append((self.time, deed))
        self.events = None

    def changes(self):
        """The changes so far, (time, deed)."""
        return list(self.log)
