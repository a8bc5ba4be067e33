"""The words in which scores are written, read one by one: what isn't so written is refused with NoLine."""

from manyclocks.errors import NoLine
from manyclocks.fractions import is_fraction
from manyclocks.items import is_name

MOST_FIGURES = 12


def expect(words, many):
    """Refuses a line of more or fewer words."""
    if len(words) != many:
        raise NoLine("a line has too many words or too few")


def some(things):
    """The things as a tuple; at least one must stand."""
    if len(things) == 0:
        raise NoLine("nothing stands here")
    return tuple(things)


def read_number(word):
    """A whole number from nought up: no nought ahead but 0 itself, at most twelve figures."""
    if not 1 <= len(word) <= MOST_FIGURES or not all("0" <= figure <= "9" for figure in word):
        raise NoLine("this is no number")
    if word[0] == "0" and word != "0":
        raise NoLine("a number has a nought ahead")
    return int(word)


def read_signed(word):
    """A whole number, one below nought with a - ahead."""
    if not word.startswith("-"):
        return read_number(word)
    number = read_number(word[1:])
    if number == 0:
        raise NoLine("nought has a - ahead")
    return -number


def read_fraction(word):
    """A fraction in lowest terms; a bottom of 1 isn't written."""
    top, stroke, bottom = word.partition("/")
    if stroke == "":
        return (read_number(top), 1)
    told = (read_number(top), read_number(bottom))
    if not is_fraction(told) or told[1] == 1:
        raise NoLine("a fraction isn't in lowest terms")
    return told


def read_name(word):
    """A name."""
    if not is_name(word):
        raise NoLine("this is no name")
    return word


def read_pace(word):
    """A pace or a lean."""
    if not word.startswith("@"):
        raise NoLine("this is no pace")
    low, sign, behind = word[1:].partition(">")
    if sign == "":
        return ("pace", read_fraction(low))
    high, star, many = behind.partition("*")
    return ("lean", read_fraction(low), read_fraction(high), read_number(many))


def read_sound(word):
    """A tone or a rest."""
    pitches, colon, length = word.partition(":")
    if pitches == "-":
        return ("rest", read_fraction(length))
    held = length.endswith("^")
    length = length.removesuffix("^")
    tied = length.endswith("~")
    length = length.removesuffix("~")
    told = tuple([read_signed(pitch) for pitch in pitches.split(".")])
    return ("tone", told, read_fraction(length), tied, held)


def read_item(word):
    """An item that is no group."""
    if word.startswith("!"):
        return ("call", read_name(word[1:]))
    if word.startswith("?"):
        giver, point, call = word[1:].partition(".")
        return ("wait", read_name(giver), read_name(call))
    if word.startswith("="):
        return ("meet", read_name(word[1:]))
    if word.startswith("@"):
        return read_pace(word)
    return read_sound(word)


def read_group(word):
    """The two numbers with which a group begins; they stand as they are."""
    many, stroke, time = word[1:].partition("/")
    return (read_number(many), read_number(time))


def read_items(words):
    """A row of items, those of groups within them."""
    heads = []
    # The rows that aren't closed yet, the whole one first.
    rows = [[]]
    for word in words:
        if word.startswith("("):
            heads.append(read_group(word))
            rows.append([])
        elif word != ")":
            rows[-1].append(read_item(word))
        elif heads:
            many, time = heads.pop()
            items = some(rows.pop())
            rows[-1].append(("group", many, time, items))
        else:
            raise NoLine("a group ends that didn't begin")
    if heads:
        raise NoLine("a group doesn't end")
    return some(rows[0])
