"""What is a score: clocks, phrases and parts that fit together."""

from manyclocks.errors import NoScore
from manyclocks.fractions import is_from_nought, is_rising, less
from manyclocks.items import is_name, is_pace_mark
from manyclocks.things import goals_of, is_row, signs_of, uses_of


def is_place_mark(thing):
    """Whether it is (place, mark), place from nought up and mark a pace or a lean."""
    if not isinstance(thing, tuple) or len(thing) != 2:
        return False
    return is_from_nought(thing[0]) and is_pace_mark(thing[1])


def are_marks(thing):
    """Whether it is a tuple of (place, mark) whose places rise."""
    if not isinstance(thing, tuple) or not all(is_place_mark(row) for row in thing):
        return False
    return all(less(low[0], high[0]) for low, high in zip(thing, thing[1:]))


def is_hung(thing):
    """Whether it is a row of four that begins like clocks and parts: (name, on, begin, ..)."""
    if not isinstance(thing, tuple) or len(thing) != 4:
        return False
    on = thing[1]
    return is_name(thing[0]) and (on is None or is_name(on)) and is_from_nought(thing[2])


def is_clock(thing):
    """Whether it is a clock, whatever other clocks there are."""
    return is_hung(thing) and are_marks(thing[3])


def is_phrase(thing):
    """Whether it is a phrase, whatever other phrases there are."""
    if not isinstance(thing, tuple) or len(thing) != 2:
        return False
    return is_name(thing[0]) and is_row(thing[1])


def is_part(thing):
    """Whether it is a part, whatever clocks and phrases there are."""
    return is_hung(thing) and is_row(thing[3])


def are_sorted(thing, is_one):
    """Whether it is a tuple of such rows, sorted by their unlike names."""
    if not isinstance(thing, tuple) or not all(is_one(row) for row in thing):
        return False
    return is_rising([row[0] for row in thing])


def has_signs(things):
    """Whether the signs of a part's or a phrase's things are unlike and its turns name them."""
    signs = {}
    for sign in signs_of(things):
        if sign in signs:
            return False
        signs[sign] = True
    return all(goal in signs for goal in goals_of(things))


def are_there(names, known):
    """Whether all these names are known."""
    return all(name in known for name in names)


def are_closed(needs):
    """Whether all that is needed is there, and nothing needs itself; needs goes from names to lists of names."""
    left = list(needs)
    done = {}
    while left:
        # What needs a name that isn't there, or itself by way of others, is never among these.
        free = [name for name in left if are_there(needs[name], done)]
        if not free:
            return False
        for name in free:
            done[name] = True
        left = [name for name in left if name not in done]
    return True


def clocks_fit(clocks, parts):
    """Whether all hangs on clocks that are there, and none on itself."""
    needs = {clock[0]: [] if clock[1] is None else [clock[1]] for clock in clocks}
    hung = [part[1] for part in parts if part[1] is not None]
    return are_there(hung, needs) and are_closed(needs)


def phrases_fit(phrases, parts):
    """Whether all phrases that are used are there, and none is used in itself."""
    needs = {name: uses_of(things) for name, things in phrases}
    used = [name for part in parts for name in uses_of(part[3])]
    return are_there(used, needs) and are_closed(needs)


def is_score(thing):
    """Whether it is a score, of anything."""
    if not isinstance(thing, tuple) or len(thing) != 3:
        return False
    clocks, phrases, parts = thing
    if not are_sorted(clocks, is_clock) or not are_sorted(phrases, is_phrase):
        return False
    if not are_sorted(parts, is_part) or len(parts) == 0:
        return False
    if not clocks_fit(clocks, parts) or not phrases_fit(phrases, parts):
        return False
    # The things stand last in phrases and in parts.
    return all(has_signs(row[-1]) for row in phrases + parts)


def checked(score):
    """None of a score; what is none, of anything, is refused with NoScore."""
    if not is_score(score):
        raise NoScore("this is no score")
