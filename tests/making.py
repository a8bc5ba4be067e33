"""Makes the scores and things that the tests hand in."""

from fractions import Fraction

HALF = (1, 2)
ONE = (1, 1)
TWO = (2, 1)
NOUGHT = (0, 1)


def odd_things():
    """Things of all kinds that are no text, no tuple, no number, no truth and not None."""
    ring = []
    ring.append(ring)
    return [
        [], [1, 2], ["tone"], ring, {}, {"bar": 1}, set(), {1, 2}, frozenset(), b"", b"tone",
        bytearray(b"a"), object(), object, int, tuple, len, lambda: 1, range(3), iter(()), ValueError("x"),
        NotImplemented, Ellipsis, slice(1), Touchy(),
    ]


def plain_things():
    """Texts, tuples, numbers, truths and None, of which few forms are made."""
    return [
        None, True, False, 0, 1, -1, 2, 10 ** 30, "", "a", "tone", "bar", "Ab", "\u00e4", "a\n",
        (), (1,), (1, 2), (True, 1), ("tone",), ("bar",), ("group",), ((),), nested(60), ([],),
    ]


class Touchy:
    """Fails where it is compared, hashed or asked for anything before its kind was looked at."""

    def __eq__(self, other):
        raise AssertionError("compared")

    def __hash__(self):
        raise AssertionError("hashed")

    def __len__(self):
        raise AssertionError("counted")

    def __bool__(self):
        raise AssertionError("taken for a truth")

    def __iter__(self):
        raise AssertionError("gone through")


def nested(deep):
    """A tuple in a tuple, so deep."""
    told = ()
    for _ in range(deep - 1):
        told = (told,)
    return told


def nested_groups(deep):
    """A group in a group, so deep."""
    told = rest()
    for _ in range(deep):
        told = group(1, 1, told)
    return told


def nested_repeats(deep):
    """A repeat in a repeat, so deep."""
    told = bar()
    for _ in range(deep):
        told = repeat(1, told)
    return told


def fraction(told):
    return Fraction(told[0], told[1])


def pair(worth):
    told = Fraction(worth)
    return (told.numerator, told.denominator)


def tone(pitch=60, length=ONE, tied=False, held=False):
    pitches = pitch if isinstance(pitch, tuple) else (pitch,)
    return ("tone", pitches, length, tied, held)


def rest(length=ONE):
    return ("rest", length)


def group(many, time, *items):
    return ("group", many, time, items)


def bar(pitch=60, size=ONE):
    """A bar of one tone."""
    return ("bar", size, ((tone(pitch, size),),))


def repeat(many, *things):
    return ("repeat", many, things, ())


def ended(many, things, *endings):
    return ("repeat", many, things, endings)


def use(name, up=0, by=ONE):
    return ("use", name, up, by)


def sign(name):
    return ("sign", name)


def turn(*goals):
    return ("turn", goals)


def clock(name, on=None, begin=NOUGHT, *marks):
    return (name, on, begin, marks)


def part(name, *things, on=None, begin=NOUGHT):
    return (name, on, begin, things)


def score(*parts, phrases=(), clocks=()):
    return (tuple(clocks), tuple(phrases), tuple(parts))


def one_part(*things, phrases=()):
    """A score of the part "a" alone, with these phrases: a dict from names to things."""
    rows = phrases if isinstance(phrases, tuple) else tuple(sorted(phrases.items()))
    return score(part("a", *things), phrases=rows)


def rich_score():
    """A right score with things of all kinds in it."""
    voices = (
        (tone((60, 64, 67), HALF, True, False), ("call", "x"), group(3, 2, tone(60, HALF), ("pace", TWO),
         group(2, 1, rest(HALF), rest(HALF)), rest(HALF)), ("meet", "m"), tone(-3, HALF, False, True)),
        (("wait", "flute", "x"), rest(TWO), ("lean", ONE, (3, 2), 4)),
    )
    full = ("bar", TWO, voices)
    inner = ended(3, (full, sign("b"), turn("b", None)), ((1, 3), (use("ph", -12, HALF), sign("d"))),
                  ((2,), ()))
    things = (sign("s"), inner, repeat(2), turn("s", None, "b", "d"), use("solo", 0, ONE), bar())
    return (
        (("beat", "main", (1, 3), ((NOUGHT, ("pace", HALF)), (TWO, ("lean", ONE, TWO, 99)))),
         ("main", None, NOUGHT, ())),
        (("ph", (sign("s"), repeat(9, use("solo", 1, TWO)), turn("s", None))), ("solo", (bar(),)), ("zero", ())),
        (("drum", None, ONE, ()), ("flute", "beat", NOUGHT, things)),
    )


def spots(thing, way=()):
    """The ways of all things in nested tuples, the whole itself as ()."""
    told = [way]
    if isinstance(thing, tuple):
        for number, inner in enumerate(thing):
            told.extend(spots(inner, way + (number,)))
    return told


def at_spot(thing, way):
    for number in way:
        thing = thing[number]
    return thing


def spoilt(thing, way, other):
    """The nested tuples with another thing at this way."""
    if way == ():
        return other
    inner = spoilt(thing[way[0]], way[1:], other)
    return thing[:way[0]] + (inner,) + thing[way[0] + 1:]
