"""Reading: scores out of their texts, line by line."""

from manyclocks.errors import NoLine, NoText
from manyclocks.scores import checked
from manyclocks.words import (
    expect, read_fraction, read_items, read_name, read_number, read_pace, read_signed, some,
)

# In this order they stand in a text.
SORTS = ("clock", "phrase", "part")


def read_hung(words):
    """How the lines of clocks and parts begin: (name, on, begin)."""
    expect(words, 6)
    if words[2] != "on" or words[4] != "from":
        raise NoLine("on or from lacks")
    on = None if words[3] == "time" else read_name(words[3])
    return (read_name(words[1]), on, read_fraction(words[5]))


def read_mark(words):
    """A clock's mark with its place."""
    expect(words, 3)
    if words[0] != "at":
        raise NoLine("at lacks")
    return (read_fraction(words[1]), read_pace(words[2]))


def read_clock(words):
    """A clock."""
    name, on, begin = read_hung(words[:6])
    marks = [read_mark(words[at:at + 3]) for at in range(6, len(words), 3)]
    return (name, on, begin, tuple(marks))


def read_bar(words):
    """A bar."""
    if len(words) < 3 or words[2] != ":":
        raise NoLine("this is no bar")
    voices = [[]]
    for word in words[3:]:
        if word == "|":
            voices.append([])
        else:
            voices[-1].append(word)
    return ("bar", read_fraction(words[1]), tuple([read_items(voice) for voice in voices]))


def read_thing(words):
    """A thing that stands in one line."""
    if words[0] == "bar":
        return read_bar(words)
    if words[0] == "turn":
        return ("turn", some([None if goal == "-" else read_name(goal) for goal in words[1:]]))
    if words[0] == "sign":
        expect(words, 2)
        return ("sign", read_name(words[1]))
    if words[0] == "use":
        expect(words, 4)
        return ("use", read_name(words[1]), read_signed(words[2]), read_fraction(words[3]))
    raise NoLine("this is no thing")


class Frame:
    """A phrase, a part or a repeat that isn't ended yet.

    head is what stands ahead of its things. rows has its things and then those of each ending, whose numbers
    numbers has.
    """

    def __init__(self, word, head):
        self.word = word
        self.head = head
        self.rows = [[]]
        self.numbers = []

    def whole(self):
        """All of it, ended."""
        things = [tuple(row) for row in self.rows]
        if self.word != "repeat":
            return (*self.head, things[0])
        return (*self.head, things[0], tuple(zip(self.numbers, things[1:])))


class Reader:
    """What is read so far: rows of each sort, and the frames that aren't ended yet, the innermost one last."""

    def __init__(self):
        self.read = {sort: [] for sort in SORTS}
        self.frames = []

    def put_line(self, words):
        """One more line, refused with NoLine."""
        if words[0] in SORTS:
            self.put_sort(words)
        elif not self.frames:
            raise NoLine("this stands outside of phrases and parts")
        elif words[0] == "repeat":
            expect(words, 2)
            self.frames.append(Frame("repeat", ("repeat", read_number(words[1]))))
        elif words[0] == "ending":
            self.put_ending(words)
        elif words[0] == "end":
            expect(words, 1)
            self.put_end()
        else:
            self.frames[-1].rows[-1].append(read_thing(words))

    def put_sort(self, words):
        """A clock, or the begin of a phrase or a part."""
        behind = SORTS[SORTS.index(words[0]) + 1:]
        if self.frames or any(self.read[sort] for sort in behind):
            raise NoLine("this stands where it may not")
        if words[0] == "clock":
            self.read["clock"].append(read_clock(words))
        elif words[0] == "part":
            self.frames.append(Frame("part", read_hung(words)))
        else:
            expect(words, 2)
            self.frames.append(Frame("phrase", (read_name(words[1]),)))

    def put_ending(self, words):
        """The begin of an ending of the innermost repeat."""
        frame = self.frames[-1]
        if frame.word != "repeat":
            raise NoLine("an ending stands outside of a repeat")
        frame.numbers.append(some([read_number(word) for word in words[1:]]))
        frame.rows.append([])

    def put_end(self):
        """The end of the innermost frame."""
        frame = self.frames.pop()
        if frame.word == "repeat":
            self.frames[-1].rows[-1].append(frame.whole())
        else:
            self.read[frame.word].append(frame.whole())


def read_score(text):
    """The score that is written in a text; refused, of anything, with NoText, then with NoScore."""
    if not isinstance(text, str):
        raise NoText(0)
    lines = text.split("\n")
    reader = Reader()
    for number, row in enumerate(lines, start=1):
        try:
            reader.put_line(row.split(" "))
        except NoLine:
            raise NoText(number) from None
    if reader.frames:
        raise NoText(len(lines))
    score = tuple([tuple(reader.read[sort]) for sort in SORTS])
    checked(score)
    return score
