"""Makes the scores and things that the tests hand in."""

from fractions import Fraction

from manyclocks.bars import marks_of
from manyclocks.clocks import place_at, time_at
from manyclocks.items import length_of
from manyclocks.lines import line
from manyclocks.paces import span
from manyclocks.walks import walk

HALF = (1, 2)
ONE = (1, 1)
TWO = (2, 1)
NOUGHT = (0, 1)


def odd_things():
    """Things of all kinds that are no text, no tuple, no number, no truth and not None."""
    ring = []
    ring.append(ring)
    return [
        [], [1, 2], ["tone"], ring, {}, {"bar": 1}, set(), {1, 2}, frozenset(), b"", b"tone",
        bytearray(b"a"), object(), object, int, tuple, len, lambda: 1, range(3), iter(()), ValueError("x"),
        NotImplemented, Ellipsis, slice(1), Touchy(),
    ]


def plain_things():
    """Texts, tuples, numbers, truths and None, of which few forms are made."""
    return [
        None, True, False, 0, 1, -1, 2, 10 ** 30, "", "a", "tone", "bar", "Ab", "\u00e4", "a\n",
        (), (1,), (1, 2), (True, 1), ("tone",), ("bar",), ("group",), ((),), nested(60), ([],),
    ]


class Touchy:
    """Fails where it is compared, hashed or asked for anything before its kind was looked at."""

    def __eq__(self, other):
        raise AssertionError("compared")

    def __hash__(self):
        raise AssertionError("hashed")

    def __len__(self):
        raise AssertionError("counted")

    def __bool__(self):
        raise AssertionError("taken for a truth")

    def __iter__(self):
        raise AssertionError("gone through")


def nested(deep):
    """A tuple in a tuple, so deep."""
    told = ()
    for _ in range(deep - 1):
        told = (told,)
    return told


def nested_groups(deep):
    """A group in a group, so deep."""
    told = rest()
    for _ in range(deep):
        told = group(1, 1, told)
    return told


def nested_repeats(deep):
    """A repeat in a repeat, so deep."""
    told = bar()
    for _ in range(deep):
        told = repeat(1, told)
    return told


def fraction(told):
    return Fraction(told[0], told[1])


def pair(worth):
    told = Fraction(worth)
    return (told.numerator, told.denominator)


def tone(pitch=60, length=ONE, tied=False, held=False):
    pitches = pitch if isinstance(pitch, tuple) else (pitch,)
    return ("tone", pitches, length, tied, held)


def rest(length=ONE):
    return ("rest", length)


def group(many, time, *items):
    return ("group", many, time, items)


def bar(pitch=60, size=ONE):
    """A bar of one tone."""
    return ("bar", size, ((tone(pitch, size),),))


def repeat(many, *things):
    return ("repeat", many, things, ())


def ended(many, things, *endings):
    return ("repeat", many, things, endings)


def use(name, up=0, by=ONE):
    return ("use", name, up, by)


def sign(name):
    return ("sign", name)


def turn(*goals):
    return ("turn", goals)


def clock(name, on=None, begin=NOUGHT, *marks):
    return (name, on, begin, marks)


def part(name, *things, on=None, begin=NOUGHT):
    return (name, on, begin, things)


def score(*parts, phrases=(), clocks=()):
    return (tuple(clocks), tuple(phrases), tuple(parts))


def one_part(*things, phrases=()):
    """A score of the part "a" alone, with these phrases: a dict from names to things."""
    rows = phrases if isinstance(phrases, tuple) else tuple(sorted(phrases.items()))
    return score(part("a", *things), phrases=rows)


def rich_score():
    """A right score with things of all kinds in it."""
    voices = (
        (tone((60, 64, 67), HALF, True, False), ("call", "x"), group(3, 2, tone(60, HALF), ("pace", TWO),
         group(2, 1, rest(HALF), rest(HALF)), rest(HALF)), ("meet", "m"), tone(-3, HALF, False, True)),
        (("wait", "flute", "x"), rest(TWO), ("lean", ONE, (3, 2), 4)),
    )
    full = ("bar", TWO, voices)
    inner = ended(3, (full, sign("b"), turn("b", None)), ((1, 3), (use("ph", -12, HALF), sign("d"))),
                  ((2,), ()))
    things = (sign("s"), inner, repeat(2), turn("s", None, "b", "d"), use("solo", 0, ONE), bar())
    return (
        (("beat", "main", (1, 3), ((NOUGHT, ("pace", HALF)), (TWO, ("lean", ONE, TWO, 99)))),
         ("main", None, NOUGHT, ())),
        (("ph", (sign("s"), repeat(9, use("solo", 1, TWO)), turn("s", None))), ("solo", (bar(),)), ("zero", ())),
        (("drum", None, ONE, ()), ("flute", "beat", NOUGHT, things)),
    )


def spots(thing, way=()):
    """The ways of all things in nested tuples, the whole itself as ()."""
    told = [way]
    if isinstance(thing, tuple):
        for number, inner in enumerate(thing):
            told.extend(spots(inner, way + (number,)))
    return told


def at_spot(thing, way):
    for number in way:
        thing = thing[number]
    return thing


def spoilt(thing, way, other):
    """The nested tuples with another thing at this way."""
    if way == ():
        return other
    inner = spoilt(thing[way[0]], way[1:], other)
    return thing[:way[0]] + (inner,) + thing[way[0] + 1:]


def call(word):
    return ("call", word)


def wait(giver, word):
    return ("wait", giver, word)


def meet(word):
    return ("meet", word)


def pace(beat):
    return ("pace", beat)


def lean(low, high, many):
    return ("lean", low, high, many)


def voiced(*voices):
    """A bar of these voices, as long as the first one is."""
    return ("bar", length_of(voices[0]), tuple(tuple(voice) for voice in voices))


def filled(*items):
    """A bar of one voice."""
    return voiced(items)


def whole(number):
    return (number, 1)


def walked_marks(handed, name):
    """The walk's marks as (place, mark, number of the bar), and its length."""
    entries = line(handed, name)
    place, told = Fraction(0), []
    for number, at in enumerate(walk(handed, name)):
        bar_there = entries[at][1]
        told.extend((place + fraction(offset), mark, number) for offset, mark in marks_of(bar_there))
        place += fraction(bar_there[1])
    return told, place


class Stage:
    """Plays a score moment by moment, as a plain looker would: whoever comes somewhere first is moved first.

    Probes, {name: places}, are marks that only tell when they are come to: one ahead of all marks of its place
    and one behind them. log has, for each part, (place, mark, number of the bar, when come to, when done or None).
    """

    def __init__(self, handed, gives, probes=()):
        self.handed = handed
        self.log, self.given, self.parts = {}, {}, {}
        for name, on, begin, things in handed[2]:
            marks, length = walked_marks(handed, name)
            paces = [(pair(at), mark) for at, mark, number in marks if mark[0] in ("pace", "lean")]
            stops = [row for row in marks if row[1][0] not in ("pace", "lean")]
            for place in sorted(fraction(place) for place in dict(probes).get(name, ())):
                ahead = len([row for row in stops if row[0] < place])
                stops.insert(ahead, (place, ("early", place), None))
                behind = len([row for row in stops if row[0] <= place])
                stops.insert(behind, (place, ("late", place), None))
            self.log[name] = []
            self.parts[name] = {"on": on, "under": begin, "place": NOUGHT, "paces": paces, "stops": stops,
                                "next": None, "waits": {}}
            self.aim(name)
        self.play(list(gives))

    def aim(self, name):
        """When the part comes to its next stop."""
        part_there = self.parts[name]
        if not part_there["stops"]:
            part_there["next"] = None
            return
        goal = pair(part_there["stops"][0][0])
        under = fraction(part_there["under"]) + fraction(span(part_there["paces"], part_there["place"], goal))
        part_there["under"], part_there["place"] = pair(under), goal
        part_there["next"] = fraction(time_at(self.handed, part_there["on"], pair(under)))

    def play(self, gives):
        while True:
            coming = [(row["next"], name) for name, row in self.parts.items() if row["next"] is not None]
            if gives and (not coming or fraction(gives[0][0]) <= min(coming)[0]):
                time, giver, word = gives.pop(0)
                if giver not in self.parts:
                    self.call(fraction(time), giver, word)
            elif coming:
                self.arrive(*min(coming))
            else:
                break

    def call(self, time, giver, word):
        """A call is given, and whoever waits for it goes on."""
        self.given[giver, word] = self.given.get((giver, word), 0) + 1
        for name, row in self.parts.items():
            held = row.get("held")
            if held and held[0] == (giver, word) and held[1] <= self.given[giver, word]:
                self.log[name][-1] = (*self.log[name][-1][:4], time)
                row["held"] = None
                row["under"] = place_at(self.handed, row["on"], pair(time))
                self.aim(name)

    def arrive(self, time, name):
        """The part comes to its next stop and does it, or is held."""
        row = self.parts[name]
        place, mark, number = row["stops"].pop(0)
        self.log[name].append((place, mark, number, time, time))
        if mark[0] == "wait":
            key = mark[1:]
            row["waits"][key] = row["waits"].get(key, 0) + 1
            if row["waits"][key] > self.given.get(key, 0):
                self.log[name][-1] = (place, mark, number, time, None)
                row["held"], row["next"] = (key, row["waits"][key]), None
                return
        self.aim(name)
        if mark[0] == "call":
            self.call(time, name, mark[1])

    def times(self, name, word):
        """(when come to, when done) of all marks of this word that are come to."""
        rows = [row for row in self.log[name] if row[1][0] == word]
        return [(pair(row[3]), None if row[4] is None else pair(row[4])) for row in rows]

    def probed(self, name, word, place):
        """When the probe, early or late, was come to, None where it wasn't."""
        rows = [pair(row[3]) for row in self.log[name] if row[1] == (word, fraction(place))]
        return rows[0] if rows else None


def some_mark(chance, names):
    """A call, wait, meeting, pace or lean; rather few waits, so that parts come on."""
    word = chance.choice(["call"] * 6 + ["wait"] * 3 + ["meet", "meet", "pace", "lean"])
    beat, other = [(chance.choice([1, 2, 3, 5]), chance.choice([1, 2, 7])) for _ in range(2)]
    beat, other = pair(fraction(beat)), pair(fraction(other))
    if word == "wait":
        return wait(chance.choice(names), chance.choice("xy"))
    if word == "pace":
        return pace(beat)
    if word == "lean":
        return lean(beat, other, chance.randrange(1, 5))
    return (word, chance.choice("xy"))


def some_voice(chance, size, names, marks):
    """Tones and rests that come to size, with as many marks among them."""
    many = chance.choice([1, 2, 3])
    length = pair(fraction(size) / many)
    items = []
    for _ in range(many):
        sound = tone(chance.choice([(60,), (60,), (60, 64)]), length, chance.random() < 0.4, chance.random() < 0.3)
        items.append(sound if chance.random() < 0.8 else rest(length))
    if chance.random() < 0.2:
        items = [group(3, 2, *items, *[rest(pair(fraction(size) / 2))])]
    for _ in range(marks):
        items.insert(chance.randrange(len(items) + 1), some_mark(chance, names))
    return tuple(items)


def some_bar(chance, names):
    size = chance.choice([ONE, TWO, HALF, (3, 2)])
    voices = [some_voice(chance, size, names, chance.choice([0, 1, 1, 2])) for _ in range(chance.choice([1, 1, 2, 4]))]
    return ("bar", size, tuple(voices))


def some_things(chance, names, phrases, deep=1):
    """Bars, repeats and uses of these phrases."""
    told = []
    for _ in range(chance.choice([1, 2, 3])):
        word = chance.random()
        if word < 0.2 and deep:
            inner = some_things(chance, names, phrases, deep - 1)
            endings = [] if chance.random() < 0.5 else [((1,), some_things(chance, names, (), 0)), ((2,), ())]
            told.append(ended(2, inner, *endings))
        elif word < 0.4 and phrases:
            told.append(use(chance.choice(phrases), chance.choice([0, 12]), chance.choice([ONE, HALF, (3, 2)])))
        else:
            told.append(some_bar(chance, names))
    return tuple(told)


def some_marks(chance):
    """Marks of pace of a clock."""
    place, told = Fraction(chance.choice([0, 1])), []
    for _ in range(chance.randrange(3)):
        mark = some_mark(chance, "a")
        if mark[0] in ("pace", "lean"):
            told.append((pair(place), mark))
            place += Fraction(chance.choice([1, 3, 5]), 2)
    return told


def some_score(chance):
    """A right score of up to four parts that call one another, on up to three clocks, with turns and repeats."""
    names = "abcd"[:chance.choice([1, 2, 3, 4])]
    clocks = [clock("k", None, chance.choice([NOUGHT, ONE]), *some_marks(chance)),
              clock("l", "k", chance.choice([NOUGHT, HALF]), *some_marks(chance)),
              clock("m", None, NOUGHT, *some_marks(chance))]
    givers = names + chance.choice(["", "z"])
    phrases = [("p", some_things(chance, givers, (), 0)), ("q", some_things(chance, givers, ("p",), 0))]
    parts = []
    for name in names:
        things = some_things(chance, givers, ("p", "q"))
        if chance.random() < 0.2:
            things = (sign("s"), *things, turn("s", None))
        parts.append(part(name, *things, on=chance.choice([None, "k", "l", "m"]),
                          begin=chance.choice([NOUGHT, ONE, (7, 3)])))
    return score(*parts, phrases=phrases, clocks=clocks)


def some_gives(chance):
    """Gives of "z", which is no part, and of "a", which is one."""
    times = sorted(Fraction(chance.randrange(40), chance.choice([1, 2, 3])) for _ in range(chance.randrange(8)))
    return [(pair(time), chance.choice("zzza"), chance.choice("xy")) for time in times]
