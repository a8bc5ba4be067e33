"""Makes the scores and things that the tests hand in."""

import heapq
from fractions import Fraction

from manyclocks.bars import marks_of, voice_of
from manyclocks.clocks import place_at, time_at
from manyclocks.items import length_of
from manyclocks.lines import line
from manyclocks.paces import span
from manyclocks.walks import walk

HALF = (1, 2)
ONE = (1, 1)
TWO = (2, 1)
NOUGHT = (0, 1)


def odd_things():
    """Things of all kinds that are no text, no tuple, no number, no truth and not None."""
    ring = []
    ring.append(ring)
    return [
        [], [1, 2], ["tone"], ring, {}, {"bar": 1}, set(), {1, 2}, frozenset(), b"", b"tone",
        bytearray(b"a"), object(), object, int, tuple, len, lambda: 1, range(3), iter(()), ValueError("x"),
        NotImplemented, Ellipsis, slice(1), Touchy(),
    ]


def plain_things():
    """Texts, tuples, numbers, truths and None, of which few forms are made."""
    return [
        None, True, False, 0, 1, -1, 2, 10 ** 30, "", "a", "tone", "bar", "Ab", "\u00e4", "a\n",
        (), (1,), (1, 2), (True, 1), ("tone",), ("bar",), ("group",), ((),), nested(60), ([],),
    ]


class Touchy:
    """Fails where it is compared, hashed or asked for anything before its kind was looked at."""

    def __eq__(self, other):
        raise AssertionError("compared")

    def __hash__(self):
        raise AssertionError("hashed")

    def __len__(self):
        raise AssertionError("counted")

    def __bool__(self):
        raise AssertionError("taken for a truth")

    def __iter__(self):
        raise AssertionError("gone through")


def nested(deep):
    """A tuple in a tuple, so deep."""
    told = ()
    for _ in range(deep - 1):
        told = (told,)
    return told


def nested_groups(deep):
    """A group in a group, so deep."""
    told = rest()
    for _ in range(deep):
        told = group(1, 1, told)
    return told


def nested_repeats(deep):
    """A repeat in a repeat, so deep."""
    told = bar()
    for _ in range(deep):
        told = repeat(1, told)
    return told


def fraction(told):
    return Fraction(told[0], told[1])


def pair(worth):
    told = Fraction(worth)
    return (told.numerator, told.denominator)


def tone(pitch=60, length=ONE, tied=False, held=False):
    pitches = pitch if isinstance(pitch, tuple) else (pitch,)
    return ("tone", pitches, length, tied, held)


def rest(length=ONE):
    return ("rest", length)


def group(many, time, *items):
    return ("group", many, time, items)


def bar(pitch=60, size=ONE):
    """A bar of one tone."""
    return ("bar", size, ((tone(pitch, size),),))


def repeat(many, *things):
    return ("repeat", many, things, ())


def ended(many, things, *endings):
    return ("repeat", many, things, endings)


def use(name, up=0, by=ONE):
    return ("use", name, up, by)


def sign(name):
    return ("sign", name)


def turn(*goals):
    return ("turn", goals)


def clock(name, on=None, begin=NOUGHT, *marks):
    return (name, on, begin, marks)


def part(name, *things, on=None, begin=NOUGHT):
    return (name, on, begin, things)


def score(*parts, phrases=(), clocks=()):
    return (tuple(clocks), tuple(phrases), tuple(parts))


def one_part(*things, phrases=()):
    """A score of the part "a" alone, with these phrases: a dict from names to things."""
    rows = phrases if isinstance(phrases, tuple) else tuple(sorted(phrases.items()))
    return score(part("a", *things), phrases=rows)


def rich_score():
    """A right score with things of all kinds in it."""
    voices = (
        (tone((60, 64, 67), HALF, True, False), ("call", "x"), group(3, 2, tone(60, HALF), ("pace", TWO),
         group(2, 1, rest(HALF), rest(HALF)), rest(HALF)), ("meet", "m"), tone(-3, HALF, False, True)),
        (("wait", "flute", "x"), rest(TWO), ("lean", ONE, (3, 2), 4)),
    )
    full = ("bar", TWO, voices)
    inner = ended(3, (full, sign("b"), turn("b", None)), ((1, 3), (use("ph", -12, HALF), sign("d"))),
                  ((2,), ()))
    things = (sign("s"), inner, repeat(2), turn("s", None, "b", "d"), use("solo", 0, ONE), bar())
    return (
        (("beat", "main", (1, 3), ((NOUGHT, ("pace", HALF)), (TWO, ("lean", ONE, TWO, 99)))),
         ("main", None, NOUGHT, ())),
        (("ph", (sign("s"), repeat(9, use("solo", 1, TWO)), turn("s", None))), ("solo", (bar(),)), ("zero", ())),
        (("drum", None, ONE, ()), ("flute", "beat", NOUGHT, things)),
    )


def spots(thing, way=()):
    """The ways of all things in nested tuples, the whole itself as ()."""
    told = [way]
    if isinstance(thing, tuple):
        for number, inner in enumerate(thing):
            told.extend(spots(inner, way + (number,)))
    return told


def at_spot(thing, way):
    for number in way:
        thing = thing[number]
    return thing


def spoilt(thing, way, other):
    """The nested tuples with another thing at this way."""
    if way == ():
        return other
    inner = spoilt(thing[way[0]], way[1:], other)
    return thing[:way[0]] + (inner,) + thing[way[0] + 1:]


def call(word):
    return ("call", word)


def wait(giver, word):
    return ("wait", giver, word)


def meet(word):
    return ("meet", word)


def pace(beat):
    return ("pace", beat)


def lean(low, high, many):
    return ("lean", low, high, many)


def voiced(*voices):
    """A bar of these voices, as long as the first one is."""
    return ("bar", length_of(voices[0]), tuple(tuple(voice) for voice in voices))


def filled(*items):
    """A bar of one voice."""
    return voiced(items)


def whole(number):
    return (number, 1)


def walked_marks(handed, name):
    """The walk's marks as (place, mark, number of the bar), and its length."""
    entries = line(handed, name)
    place, told = Fraction(0), []
    for number, at in enumerate(walk(handed, name)):
        bar_there = entries[at][1]
        told.extend((place + fraction(offset), mark, number) for offset, mark in marks_of(bar_there))
        place += fraction(bar_there[1])
    return told, place


def stops_with_probes(marks, places):
    """The calls, waits and meetings of a walk, with the probes of these places."""
    stops = [row for row in marks if row[1][0] not in ("pace", "lean")]
    for place in sorted(fraction(place) for place in places):
        ahead = len([row for row in stops if row[0] < place])
        stops.insert(ahead, (place, ("early", place), None))
        behind = len([row for row in stops if row[0] <= place])
        stops.insert(behind, (place, ("late", place), None))
    return stops


class Stage:
    """Plays a score moment by moment, as a plain looker would: whoever comes somewhere first is moved first.

    Probes, {name: places}, are marks that only tell when they are come to: one ahead of all marks of its place
    and one behind them. log has, for each part, (place, mark, number of the bar, when come to, when done or None).
    """

    def __init__(self, handed, gives, probes=()):
        self.handed = handed
        self.log, self.given, self.parts = {}, {}, {}
        for name, on, begin, things in handed[2]:
            marks, length = walked_marks(handed, name)
            paces = [(pair(at), mark) for at, mark, number in marks if mark[0] in ("pace", "lean")]
            stops = stops_with_probes(marks, dict(probes).get(name, ()))
            self.log[name] = []
            self.parts[name] = {"on": on, "under": begin, "place": NOUGHT, "paces": paces, "stops": stops,
                                "next": None, "waits": {}}
            self.aim(name)
        self.play(list(gives))

    def aim(self, name):
        """When the part comes to its next stop."""
        part_there = self.parts[name]
        if not part_there["stops"]:
            part_there["next"] = None
            return
        goal = pair(part_there["stops"][0][0])
        under = fraction(part_there["under"]) + fraction(span(part_there["paces"], part_there["place"], goal))
        part_there["under"], part_there["place"] = pair(under), goal
        part_there["next"] = fraction(time_at(self.handed, part_there["on"], pair(under)))

    def play(self, gives):
        while True:
            coming = [(row["next"], name) for name, row in self.parts.items() if row["next"] is not None]
            if gives and (not coming or fraction(gives[0][0]) <= min(coming)[0]):
                time, giver, word = gives.pop(0)
                if giver not in self.parts:
                    self.call(fraction(time), giver, word)
            elif coming:
                self.arrive(*min(coming))
            else:
                break

    def call(self, time, giver, word):
        """A call is given, and whoever waits for it goes on."""
        self.given[giver, word] = self.given.get((giver, word), 0) + 1
        for name, row in self.parts.items():
            held = row.get("held")
            if held and held[0] == (giver, word) and held[1] <= self.given[giver, word]:
                self.log[name][-1] = (*self.log[name][-1][:4], time)
                row["held"] = None
                row["under"] = place_at(self.handed, row["on"], pair(time))
                self.aim(name)

    def arrive(self, time, name):
        """The part comes to its next stop and does it, or is held."""
        row = self.parts[name]
        place, mark, number = row["stops"].pop(0)
        self.log[name].append((place, mark, number, time, time))
        if mark[0] == "wait":
            key = mark[1:]
            row["waits"][key] = row["waits"].get(key, 0) + 1
            if row["waits"][key] > self.given.get(key, 0):
                self.log[name][-1] = (place, mark, number, time, None)
                row["held"], row["next"] = (key, row["waits"][key]), None
                return
        self.aim(name)
        if mark[0] == "call":
            self.call(time, name, mark[1])

    def times(self, name, word):
        """(when come to, when done) of all marks of this word that are come to."""
        rows = [row for row in self.log[name] if row[1][0] == word]
        return [(pair(row[3]), None if row[4] is None else pair(row[4])) for row in rows]

    def probed(self, name, word, place):
        """When the probe, early or late, was come to, None where it wasn't."""
        rows = [pair(row[3]) for row in self.log[name] if row[1] == (word, fraction(place))]
        return rows[0] if rows else None


class Mover:
    """A clock, or a part, that moves on from place to place; its place is None ahead of its begin."""

    def __init__(self, on, begin, marks, stops=None):
        self.on, self.begin, self.marks, self.stops = on, fraction(begin), marks, stops
        self.place, self.plain, self.changed, self.held = None, Fraction(1), None, None
        self.waits = {}

    def is_moving(self):
        return self.place is not None and self.held is None and self.stops != []

    def beat(self):
        """How long its beat is where it is."""
        behind = [row for row in self.marks if row[0] <= self.place]
        if self.changed and not [row for row in behind if row[0] > self.changed[0]]:
            return self.changed[1]
        if not behind:
            return self.plain
        place, mark = behind[-1]
        if mark[0] == "pace":
            return fraction(mark[1])
        low, high, many = fraction(mark[1]), fraction(mark[2]), mark[3]
        return low + (high - low) * min((self.place - place) // 1, many) / many

    def goals(self):
        """Places further on at which its beat may change or at which it has something to do."""
        told = [row[0] for row in self.marks] + [row[0] for row in self.stops or ()]
        told += [row[0] + (self.place - row[0]) // 1 + 1 for row in self.marks if row[1][0] == "lean"
                 and row[0] <= self.place < row[0] + row[1][3]]
        return [place for place in told if place > self.place]


class Hall(Stage):
    """Plays a score with changes by speeds: all moves on up to the next moment at which any speed may change."""

    def __init__(self, handed, changes, probes=()):
        self.log, self.given, self.now, self.names = {}, {}, Fraction(0), []
        self.movers = {None: Mover(None, NOUGHT, [])}
        self.movers[None].place = Fraction(0)
        for name, on, begin, marks in handed[0]:
            self.movers["clock", name] = Mover(on, begin, [(fraction(place), mark) for place, mark in marks])
        for name, on, begin, things in handed[2]:
            marks, length = walked_marks(handed, name)
            paces = [row[:2] for row in marks if row[1][0] in ("pace", "lean")]
            stops = stops_with_probes(marks, [*dict(probes).get(name, ()), pair(length)])
            self.movers["part", name] = Mover(on, begin, paces, stops)
            self.log[name] = []
            self.names.append(name)
        self.play(list(changes))

    def under(self, mover):
        return self.movers[None if mover.on is None else ("clock", mover.on)]

    def speed(self, mover):
        if not mover.is_moving():
            return 0
        return 1 if mover == self.movers[None] else self.speed(self.under(mover)) / mover.beat()

    def ahead(self):
        """How long it is to the next moments."""
        told = []
        for mover in list(self.movers.values())[1:]:
            if mover.place is None and self.speed(self.under(mover)):
                told.append((mover.begin - self.under(mover).place) / self.speed(self.under(mover)))
            elif mover.is_moving() and self.speed(mover) and mover.goals():
                told.append((min(mover.goals()) - mover.place) / self.speed(mover))
        return told

    def play(self, changes):
        self.settle()
        while changes or self.ahead():
            step = min(self.ahead() + [fraction(change[0]) - self.now for change in changes[:1]])
            speeds = [(mover, self.speed(mover)) for mover in self.movers.values()]
            for mover, speed in speeds:
                if speed:
                    mover.place += speed * step
            self.now += step
            self.settle()
            while changes and fraction(changes[0][0]) == self.now:
                self.change(*changes.pop(0)[1])
                self.settle()

    def change(self, word, name, what):
        if word == "give":
            if name not in self.names:
                self.given[name, what] = self.given.get((name, what), 0) + 1
            return
        mover = self.movers["part" if word == "pace" else "clock", name]
        if mover.place is None:
            mover.plain = fraction(what)
        elif mover.stops != []:
            mover.changed = (mover.place, fraction(what))

    def settle(self):
        """Whoever begins begins, and whoever is at something does it, until nothing is left to do now."""
        done = True
        while done:
            done = False
            for mover in list(self.movers.values())[1:]:
                under = self.under(mover).place
                if mover.place is None and under is not None and under >= mover.begin:
                    mover.place, done = Fraction(0), True
            for name in self.names:
                while self.does_one(name, self.movers["part", name]):
                    done = True

    def does_one(self, name, mover):
        if mover.held:
            key, number = mover.held
            if self.given.get(key, 0) < number:
                return False
            mover.held = None
            self.log[name][-1] = (*self.log[name][-1][:4], self.now)
            return True
        if not mover.stops or mover.place != mover.stops[0][0]:
            return False
        place, mark, number = mover.stops.pop(0)
        self.log[name].append((place, mark, number, self.now, self.now))
        if mark[0] == "call":
            self.given[name, mark[1]] = self.given.get((name, mark[1]), 0) + 1
        if mark[0] == "wait":
            mover.waits[mark[1:]] = mover.waits.get(mark[1:], 0) + 1
            mover.held = (mark[1:], mover.waits[mark[1:]])
            self.log[name][-1] = (place, mark, number, self.now, None)
        return True


def plain_voice(handed, name, voice):
    """The items of a voice bar by bar: (place, end, item), [] of a bar that lacks it."""
    entries = line(handed, name)
    place, told = fraction(NOUGHT), []
    for at in walk(handed, name):
        here = entries[at][1]
        rows = [(place + fraction(offset), item) for offset, item in voice_of(here, voice)]
        told.append([(begin, begin + fraction(item[2] if item[0] == "tone" else item[1]), item)
                     for begin, item in rows])
        place += fraction(here[1])
    return told


def plain_ties(bars):
    """The items of a voice, each with that which stands next, None where the next bar lacks the voice."""
    rows = []
    for number, items in enumerate(bars):
        after = bars[number + 1][0] if number + 1 < len(bars) and bars[number + 1] else None
        rows.extend(zip(items, [*items[1:], after]))
    return rows


def plain_sounds(handed, gives, stage_of=Stage):
    """All sounds: from each tone into which none goes on, step by step to the one that doesn't go on."""
    voices = {(part_there[0], voice): plain_ties(plain_voice(handed, part_there[0], voice))
              for part_there in handed[2] for voice in range(4)}
    probes = {name: {pair(place) for voice in range(4) for row, after in voices[name, voice] for place in row[:2]}
              for name, voice in voices}
    stage = stage_of(handed, gives, probes)
    told = []
    for (name, voice), rows in voices.items():
        into = {row[0]: after for row, after in rows if goes_on(row, after)}
        begun = set(after[0] for after in into.values())
        for first in [row for row, after in rows if row[2][0] == "tone" and row[0] not in begun]:
            last = first
            while last[0] in into:
                last = into[last[0]]
            begin = stage.probed(name, "late", pair(first[0]))
            end = stage.probed(name, "late" if last[2][4] else "early", pair(last[1]))
            if begin is not None:
                told.append((begin, end, name, voice, first[2][1]))
    return sorted(told, key=lambda row: (fraction(row[0]), row[1] is None, row[1] and fraction(row[1]), *row[2:]))


def goes_on(row, after):
    item = row[2]
    return item[0] == "tone" and item[3] and after is not None and after[2][:2] == ("tone", item[1])


def plain_parting(handed, gives, stage_of=Stage):
    """The first parting, of all that a plain stage shows."""
    stage = stage_of(handed, gives)
    meetings = {}
    for name in stage.log:
        come = [row[3] for row in stage.log[name] if row[1][0] == "meet" and row[4] is not None]
        marks = [row for row in walked_marks(handed, name)[0] if row[1][0] == "meet"]
        for number, (place, mark, in_bar) in enumerate(marks):
            k = [row[1] for row in marks[:number + 1]].count(mark)
            time = come[number] if number < len(come) else None
            meetings.setdefault((mark[1], k), []).append((time is None, time or 0, name, in_bar))
    rows = []
    for (word, k), comers in meetings.items():
        comers.sort()
        others = [row for row in comers if row[:2] != comers[0][:2]]
        if others:
            rows.append((comers[0][1], word, k, told_comer(comers[0]), told_comer(others[0])))
    return min(rows)[1:] if rows else None


def told_comer(comer):
    return comer[2], comer[3], None if comer[0] else pair(comer[1])


def some_mark(chance, names):
    """A call, wait, meeting, pace or lean; rather few waits, so that parts come on."""
    word = chance.choice(["call"] * 6 + ["wait"] * 3 + ["meet", "meet", "pace", "lean"])
    beat, other = [(chance.choice([1, 2, 3, 5]), chance.choice([1, 2, 7])) for _ in range(2)]
    beat, other = pair(fraction(beat)), pair(fraction(other))
    if word == "wait":
        return wait(chance.choice(names), chance.choice("xy"))
    if word == "pace":
        return pace(beat)
    if word == "lean":
        return lean(beat, other, chance.randrange(1, 5))
    return (word, chance.choice("xy"))


def some_voice(chance, size, names, marks):
    """Tones and rests that come to size, with as many marks among them."""
    many = chance.choice([1, 2, 3])
    length = pair(fraction(size) / many)
    items = []
    for _ in range(many):
        sound = tone(chance.choice([(60,), (60,), (60, 64)]), length, chance.random() < 0.4, chance.random() < 0.3)
        items.append(sound if chance.random() < 0.8 else rest(length))
    if chance.random() < 0.2:
        items = [group(3, 2, *items, *[rest(pair(fraction(size) / 2))])]
    for _ in range(marks):
        items.insert(chance.randrange(len(items) + 1), some_mark(chance, names))
    return tuple(items)


def some_bar(chance, names):
    size = chance.choice([ONE, TWO, HALF, (3, 2)])
    voices = [some_voice(chance, size, names, chance.choice([0, 1, 1, 2])) for _ in range(chance.choice([1, 1, 2, 4]))]
    return ("bar", size, tuple(voices))


def some_things(chance, names, phrases, deep=1):
    """Bars, repeats and uses of these phrases."""
    told = []
    for _ in range(chance.choice([1, 2, 3])):
        word = chance.random()
        if word < 0.2 and deep:
            inner = some_things(chance, names, phrases, deep - 1)
            endings = [] if chance.random() < 0.5 else [((1,), some_things(chance, names, (), 0)), ((2,), ())]
            told.append(ended(2, inner, *endings))
        elif word < 0.4 and phrases:
            told.append(use(chance.choice(phrases), chance.choice([0, 12]), chance.choice([ONE, HALF, (3, 2)])))
        else:
            told.append(some_bar(chance, names))
    return tuple(told)


def some_marks(chance):
    """Marks of pace of a clock."""
    place, told = Fraction(chance.choice([0, 1])), []
    for _ in range(chance.randrange(3)):
        mark = some_mark(chance, "a")
        if mark[0] in ("pace", "lean"):
            told.append((pair(place), mark))
            place += Fraction(chance.choice([1, 3, 5]), 2)
    return told


def some_score(chance):
    """A right score of up to four parts that call one another, on up to three clocks, with turns and repeats."""
    names = "abcd"[:chance.choice([1, 2, 3, 4])]
    clocks = [clock("k", None, chance.choice([NOUGHT, ONE]), *some_marks(chance)),
              clock("l", "k", chance.choice([NOUGHT, HALF]), *some_marks(chance)),
              clock("m", None, NOUGHT, *some_marks(chance))]
    givers = names + chance.choice(["", "z"])
    phrases = [("p", some_things(chance, givers, (), 0)), ("q", some_things(chance, givers, ("p",), 0))]
    parts = []
    for name in names:
        things = some_things(chance, givers, ("p", "q"))
        if chance.random() < 0.2:
            things = (sign("s"), *things, turn("s", None))
        parts.append(part(name, *things, on=chance.choice([None, "k", "l", "m"]),
                          begin=chance.choice([NOUGHT, ONE, (7, 3)])))
    return score(*parts, phrases=phrases, clocks=clocks)


def some_gives(chance):
    """Gives of "z", which is no part, and of "a", which is one."""
    times = sorted(Fraction(chance.randrange(40), chance.choice([1, 2, 3])) for _ in range(chance.randrange(8)))
    return [(pair(time), chance.choice("zzza"), chance.choice("xy")) for time in times]


def some_changes(chance, handed, most=9):
    """Changes of the parts and clocks of a score that some_score made, and gives of "z"; often several at one time."""
    names = [row[0] for row in handed[2]]
    clocks = [row[0] for row in handed[0]]
    time, told = Fraction(0), []
    for _ in range(chance.randrange(most)):
        time += chance.choice([0, 0, Fraction(1, 7), Fraction(1, 2), 1, Fraction(5, 3), 2])
        beat = pair(Fraction(chance.choice([1, 2, 3, 5]), chance.choice([1, 2, 7])))
        word = chance.choice(["give", "pace", "pace", "clock"])
        if word == "give":
            told.append((pair(time), ("give", "z", chance.choice("xy"))))
        else:
            told.append((pair(time), (word, chance.choice(names if word == "pace" else clocks), beat)))
    return told


def steps_of(rows, behind, heard_row, state):
    """All steps from a state (i, v) of hearing: (step, cost, state that it leads to)."""
    index, number = state
    told = []
    goals = behind[number] if number < len(rows) else []
    for goal in goals:
        told.append((("miss", number), 2, (index, goal)))
    if index < len(heard_row):
        told.append((("more", index), 2, (index + 1, number)))
        for goal in goals:
            cost = (heard_row[index][0] != rows[number][0]) + (heard_row[index][1] != rows[number][1])
            told.append((("hear", index, number), cost, (index + 1, goal)))
    return told


def plain_cost(rows, behind, heard_row):
    """The least cost that any way of a heard row has: ways are gone on from the cheapest one on."""
    left = [(0, (0, number)) for number in range(len(rows) + 1)]
    seen = set()
    while True:
        cost, state = heapq.heappop(left)
        if state[0] == len(heard_row):
            return cost
        if state not in seen:
            seen.add(state)
            for step, more, goal in steps_of(rows, behind, heard_row, state):
                heapq.heappush(left, (cost + more, goal))


def some_heard(chance, rows, behind):
    """Some written things, walked from anywhere on, with things left out, put in and taken for others."""
    told = []
    number = chance.randrange(len(rows) + 1)
    while number < len(rows) and len(told) < 8:
        told.append(rows[number][:2])
        number = chance.choice(behind[number])
    for _ in range(chance.choice([0, 0, 1, 2, 4])):
        at = chance.randrange(len(told) + 1)
        other = (chance.choice([(), (60,), (61, 70)]), chance.choice([ONE, HALF, (1, 3)]))
        word = chance.choice(["out", "in", "pitches", "length", "both"])
        if word == "in":
            told.insert(at, other)
        elif told and word == "out":
            del told[at % len(told)]
        elif told:
            there = told[at % len(told)]
            told[at % len(told)] = (there[0] if word == "length" else other[0], there[1] if word == "pitches" else other[1])
    return told
