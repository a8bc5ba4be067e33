"""The line of a part: its bars and turns, flat, with goals that are places in the line."""

from manyclocks.bars import moved_bar
from manyclocks.errors import TooLong
from manyclocks.fractions import ONE, times

MOST_ENTRIES = 2000
MOST_USES = 2000


class LineMaker:
    """Makes one line, thing by thing.

    Goals may lie further on, where places aren't known yet: so turns go to labels, numbers whose
    places are put once they are come to. A scope is what holds in one part or in one use of a phrase:
    (labels of the signs by their names, up, by).
    """

    def __init__(self, phrases):
        self.phrases = phrases
        self.entries = []
        self.places = []
        self.uses = 0

    def new_label(self):
        """A label whose place isn't known yet."""
        self.places.append(None)
        return len(self.places) - 1

    def put_label(self, label):
        """The label stands for the place of what follows."""
        self.places[label] = len(self.entries)

    def put_entry(self, entry):
        """One more entry of the line."""
        if len(self.entries) == MOST_ENTRIES:
            raise TooLong("a line has more than 2000 entries")
        self.entries.append(entry)

    def label_of(self, labels, sign):
        """The label of a sign, a new one where neither it nor a turn to it was come to yet."""
        if sign not in labels:
            labels[sign] = self.new_label()
        return labels[sign]

    def put_row(self, things, way, first, scope):
        """The line of a row of things that stand in way, numbered from first on."""
        for number, thing in enumerate(things, start=first):
            here = (*way, number)
            if thing[0] == "bar":
                self.put_entry(("bar", moved_bar(thing, scope[1], scope[2]), here))
            elif thing[0] == "sign":
                self.put_label(self.label_of(scope[0], thing[1]))
            elif thing[0] == "turn":
                self.put_turn(thing[1], scope[0])
            elif thing[0] == "use":
                self.put_use(thing, here, scope)
            else:
                self.put_repeat(thing, here, scope)

    def put_turn(self, goals, labels):
        """A turn of the score; None goes to the place behind it."""
        behind = self.new_label()
        told = [behind if goal is None else self.label_of(labels, goal) for goal in goals]
        self.put_entry(("turn", told))
        self.put_label(behind)

    def put_use(self, use, way, scope):
        """The line of the phrase that is used, moved by this use and by those around it."""
        self.uses += 1
        if self.uses > MOST_USES:
            raise TooLong("a line comes to uses more than 2000 times")
        # Its signs are its own with each use.
        inner = ({}, scope[1] + use[2], times(scope[2], use[3]))
        self.put_row(self.phrases[use[1]], way, 0, inner)

    def put_repeat(self, repeat, way, scope):
        """The line of a repeat's things and of its endings, with the turns that lead through them."""
        many, things, endings = repeat[1:]
        begin = self.new_label()
        behind = self.new_label()
        self.put_label(begin)
        self.put_row(things, way, 0, scope)
        # The last time round there is nothing to go back for.
        returns = [begin] * (many - 1) + [behind]
        if endings:
            self.put_endings(repeat, way, scope, returns)
        else:
            self.put_entry(("turn", returns))
        self.put_label(behind)

    def put_endings(self, repeat, way, scope, returns):
        """A turn to the endings, and each of them with its turn; returns has the label behind each time."""
        many, things, endings = repeat[1:]
        begins = [self.new_label() for ending in endings]
        by_number = {number: begin for begin, ending in zip(begins, endings) for number in ending[0]}
        self.put_entry(("turn", [by_number[number] for number in range(1, many + 1)]))
        first = len(things)
        for begin, ending in zip(begins, endings):
            self.put_label(begin)
            self.put_row(ending[1], way, first, scope)
            self.put_entry(("turn", [returns[number - 1] for number in ending[0]]))
            first += len(ending[1])

    def with_places(self, entry):
        """An entry of the line made, each label its place."""
        if entry[0] == "bar":
            return entry
        return ("turn", tuple([self.places[label] for label in entry[1]]))

    def made(self):
        """The line made."""
        return [self.with_places(entry) for entry in self.entries]


def part_things(score, name):
    """The things of the part of this name."""
    return {part[0]: part[3] for part in score[2]}[name]


def phrase_things(score):
    """The things of each phrase by its name."""
    return {name: things for name, things in score[1]}


def line(score, name):
    """The line of a part: a list of ("bar", bar, way) and ("turn", goals)."""
    maker = LineMaker(phrase_things(score))
    maker.put_row(part_things(score, name), (), 0, ({}, 0, ONE))
    return maker.made()
