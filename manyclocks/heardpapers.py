"""Papers of heard rows: whether a way has the cost that is told, and whether the table shows that none is cheaper."""

from manyclocks.fractions import is_whole
from manyclocks.hearing import ASTRAY, Music, hear_cost
from manyclocks.items import is_form


def is_number(thing, numbers):
    """Whether it is one of these whole numbers, of anything."""
    return is_whole(thing) and thing in numbers


def is_step(music, thing, index, numbers):
    """Whether it is a step, of anything, that takes the heard thing of this index or is of one of these numbers."""
    indexes = [index] if index < len(music.row) else []
    if is_form(thing, "hear", 3):
        return is_number(thing[1], indexes) and is_number(thing[2], numbers)
    if is_form(thing, "miss", 2):
        return is_number(thing[1], numbers)
    return is_form(thing, "more", 2) and is_number(thing[1], indexes)


def way_cost(music, way):
    """What a way of the whole heard row costs, None of what is no such way, of anything."""
    if not isinstance(way, tuple):
        return None
    cost = 0
    index = 0
    numbers = list(range(len(music.things)))
    for step in way:
        if not is_step(music, step, index, numbers):
            return None
        cost += ASTRAY if step[0] != "hear" else hear_cost(music.row[index], music.things[step[2]])
        if step[0] != "miss":
            index += 1
        if step[0] != "more":
            # Behind this thing the next step that isn't more is of one of those that can come next.
            numbers = [number for number in music.nexts[step[-1]] if number < len(music.things)]
    return cost if index == len(music.row) else None


def are_numbers(thing, many):
    """Whether it is a tuple of so many whole numbers, of anything."""
    return isinstance(thing, tuple) and len(thing) == many and all(is_whole(number) for number in thing)


def is_table(music, thing):
    """Whether it is a tuple of as many rows, with as many whole numbers each, as a table has, of anything."""
    if not isinstance(thing, tuple) or len(thing) != len(music.row) + 1:
        return False
    return all(are_numbers(costs, len(music.nexts)) for costs in thing)


def misses_fit(music, costs):
    """Whether in a row of a table no missed thing leads to a number that is too great."""
    for cost, goals in zip(costs, music.nexts):
        if any(costs[goal] > cost + ASTRAY for goal in goals):
            return False
    return True


def hearings_fit(music, index, above, below):
    """Whether from one row of a table to the next one no step leads to a number that is too great."""
    if any(low > high + ASTRAY for high, low in zip(above, below)):
        return False
    for cost, thing, goals in zip(above, music.things, music.nexts):
        most = cost + hear_cost(music.row[index], thing)
        if any(below[goal] > most for goal in goals):
            return False
    return True


def table_cost(music, table):
    """The cost that a table shows, None of what shows none, of anything."""
    if not is_table(music, table) or max(table[0]) > 0:
        return None
    if not all(misses_fit(music, costs) for costs in table):
        return None
    for index in range(len(music.row)):
        if not hearings_fit(music, index, table[index], table[index + 1]):
            return None
    return min(table[-1])


def shows_heard(score, name, row, told):
    """Whether it is a tuple (cost, way, table) of the least cost of a heard row, of anything."""
    if not isinstance(told, tuple):
        return False
    music = Music(score, name, row)
    if len(told) != 3 or not is_whole(told[0]):
        return False
    return way_cost(music, told[1]) == told[0] and table_cost(music, told[2]) == told[0]
