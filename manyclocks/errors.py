"""What the program refuses with."""


class ClockError(ValueError):
    """Any refusal."""


class NoScore(ClockError):
    """What was handed in is no score."""


class TooLong(ClockError):
    """A line or a walk goes beyond its bounds."""


class NoTime(ClockError):
    """A time that lies ahead of the player's own."""


class NoDeed(ClockError):
    """What was handed in is no deed of a part or clock that is there."""


class Unlike(ClockError):
    """Two scores have unlike things of one sort by one name."""


class NoText(ClockError):
    """A text in which no score is written; line is the first one that is wrong."""

    def __init__(self, line):
        self.line = line


class NoLine(ClockError):
    """A line that the desk doesn't take."""
