"""The things of which parts and phrases are rows: bars, signs, turns, uses and repeats."""

from manyclocks.bars import is_bar
from manyclocks.fractions import is_above_nought, is_count, is_rising, is_whole
from manyclocks.items import is_form, is_name

MOST_THINGS = 60
MOST_GOALS = 9
MOST_TIMES = 9
MOST_DEEP = 6


def is_turn(thing):
    """Whether it is a turn, whatever signs there are."""
    if not is_form(thing, "turn", 2) or not isinstance(thing[1], tuple):
        return False
    goals = thing[1]
    return 1 <= len(goals) <= MOST_GOALS and all(goal is None or is_name(goal) for goal in goals)


def is_use(thing):
    """Whether it is a use, whatever phrases there are."""
    if not is_form(thing, "use", 4):
        return False
    return is_name(thing[1]) and is_whole(thing[2]) and is_above_nought(thing[3])


def is_ending(thing, many, deep):
    """Whether it is an ending of a repeat of so many times, by itself."""
    if not isinstance(thing, tuple) or len(thing) != 2:
        return False
    numbers, things = thing
    if not isinstance(numbers, tuple) or len(numbers) == 0:
        return False
    if not all(is_count(number, many) for number in numbers) or not is_rising(numbers):
        return False
    return are_things(things, deep)


def are_endings(thing, many, deep):
    """Whether it is () or a tuple of endings in which each number from 1 to many stands once."""
    if not isinstance(thing, tuple):
        return False
    if not all(is_ending(ending, many, deep) for ending in thing):
        return False
    told = [number for ending in thing for number in ending[0]]
    return told == [] or sorted(told) == list(range(1, many + 1))


def is_repeat(thing, deep):
    """Whether it is a repeat in which repeats stand at most so deep, itself counted."""
    if deep == 0 or not is_form(thing, "repeat", 4):
        return False
    many, things, endings = thing[1:]
    if not is_count(many, MOST_TIMES):
        return False
    return are_things(things, deep - 1) and are_endings(endings, many, deep - 1)


def is_thing(thing, deep):
    """Whether it is a thing in which repeats stand at most so deep."""
    if is_form(thing, "sign", 2):
        return is_name(thing[1])
    return is_bar(thing) or is_turn(thing) or is_use(thing) or is_repeat(thing, deep)


def are_things(thing, deep):
    """Whether it is a row of things in which repeats stand at most so deep."""
    if not isinstance(thing, tuple) or len(thing) > MOST_THINGS:
        return False
    return all(is_thing(one, deep) for one in thing)


def is_row(thing):
    """Whether it is a row of things that a part or a phrase can have, of anything."""
    return are_things(thing, MOST_DEEP)


def opened(things):
    """The things of a row without its repeats, those in the repeats and their endings in their stead."""
    told = []
    for thing in things:
        if thing[0] == "repeat":
            told.extend(opened(thing[2]))
            for ending in thing[3]:
                told.extend(opened(ending[1]))
        else:
            told.append(thing)
    return told


def signs_of(things):
    """The names of all signs of a row, those in its repeats among them."""
    return [thing[1] for thing in opened(things) if thing[0] == "sign"]


def goals_of(things):
    """The names to which the turns of a row go, those in its repeats among them."""
    turns = [thing for thing in opened(things) if thing[0] == "turn"]
    return [goal for turn in turns for goal in turn[1] if goal is not None]


def uses_of(things):
    """The names of all phrases used in a row, those in its repeats among them."""
    return [thing[1] for thing in opened(things) if thing[0] == "use"]
