"""The desk: lines answered with texts, of a score and of a player that plays it."""

from manyclocks.answers import (
    hear_answer, show_events, show_parting, show_place, show_reasons, show_row, show_time, walk_answer,
)
from manyclocks.bars import MOST_VOICES
from manyclocks.drawing import drawn
from manyclocks.errors import NoLine
from manyclocks.items import is_item
from manyclocks.meetings import parting_of
from manyclocks.places import where_of
from manyclocks.players import Player
from manyclocks.reading import read_score
from manyclocks.rows import row_of
from manyclocks.showing import show_score
from manyclocks.standing import why_of
from manyclocks.words import expect, read_fraction, read_name, read_number, read_sound, some

OF_PLAYERS = ("go", "give", "pace", "clock", "now")
OF_COURSES = ("where", "meets", "stands", "row")


def read_part(score, word):
    """The name of a part of the score."""
    name = read_name(word)
    if name not in [part[0] for part in score[2]]:
        raise NoLine("there is no such part")
    return name


def read_voice(word):
    """The number of a voice."""
    voice = read_number(word)
    if voice >= MOST_VOICES:
        raise NoLine("there is no such voice")
    return voice


def read_heard(word):
    """A heard thing, (pitches, length): a tone, not tied and not held, or a rest."""
    item = read_sound(word)
    if not is_item(item):
        raise NoLine("this is no item")
    if item[0] == "rest":
        return ((), item[1])
    if item[3] or item[4]:
        raise NoLine("what is heard is neither tied nor held")
    return (item[1], item[2])


def player_answer(player, words):
    """The answer to a line that leads the player or changes what it plays."""
    if words[0] == "now":
        expect(words, 1)
        return show_time(player.now())
    if words[0] == "go":
        expect(words, 2)
        return show_events(player.go(read_fraction(words[1])))
    expect(words, 3)
    name = read_name(words[1])
    what = read_name(words[2]) if words[0] == "give" else read_fraction(words[2])
    player.change((words[0], name, what))
    return "ok"


def course_answer(score, course, words):
    """The answer to a line that asks of the score with the changes made so far."""
    if words[0] == "meets":
        expect(words, 1)
        return show_parting(parting_of(course))
    if words[0] == "stands":
        expect(words, 1)
        return show_reasons(why_of(course))
    expect(words, 3)
    name = read_part(score, words[1])
    if words[0] == "where":
        return show_place(where_of(course, name, read_fraction(words[2])))
    return show_row(row_of(course, name, read_voice(words[2])))


def score_answer(score, words):
    """The answer to a line that asks of the score alone."""
    if words[0] == "walk":
        expect(words, 2)
        return walk_answer(score, read_part(score, words[1]))
    if words[0] == "draw":
        names = [read_part(score, word) for word in some(words[1:])]
        return show_score(drawn(score, names))
    if words[0] == "hear":
        row = [read_heard(word) for word in some(words[2:])]
        return hear_answer(score, read_part(score, words[1]), row)
    raise NoLine("the desk takes no such line")


class Desk:
    """Answers lines, of the score that is written in a text and of a player of it."""

    def __init__(self, text):
        self.score = read_score(text)
        self.player = Player(self.score)

    def say(self, line):
        """The answer to a line; what is none, of anything, is refused with NoLine."""
        if not isinstance(line, str):
            raise NoLine("this is no text")
        words = line.split(" ")
        if words[0] in OF_PLAYERS:
            return player_answer(self.player, words)
        if words[0] in OF_COURSES:
            return course_answer(self.score, self.player.play.course_now(), words)
        return score_answer(self.score, words)
