"""Hearing: a heard row led back to the written things that give it, at the least cost."""

from manyclocks.lines import line
from manyclocks.written import nexts_of, written_of

# What it costs that a written thing isn't heard, or that a heard one isn't written.
ASTRAY = 2


def hear_cost(one, other):
    """What it costs to take a heard thing for a written one, both (pitches, length, ..)."""
    cost = 0
    if one[0] != other[0]:
        cost += 1
    if one[1] != other[1]:
        cost += 1
    return cost


class Music:
    """The written things of a part, for each of them and for the end those that can come next, and a heard row."""

    def __init__(self, score, name, row):
        entries = line(score, name)
        self.things = written_of(entries)
        # From the end one comes nowhere.
        self.nexts = nexts_of(entries) + [[]]
        self.row = row

    def costs_behind(self, costs, index):
        """The least costs of all states once one more heard thing is taken, costs being those ahead of it."""
        told = [cost + ASTRAY for cost in costs]
        for cost, thing, goals in zip(costs, self.things, self.nexts):
            here = cost + hear_cost(self.row[index], thing)
            for goal in goals:
                told[goal] = min(told[goal], here)
        self.lessen(told)
        return told

    def lessen(self, costs):
        """Lessens the costs of states by ways on which things are missed."""
        highest = max(costs)
        left = [[] for cost in range(highest + 1)]
        for number, cost in enumerate(costs):
            left[cost].append(number)
        # From the least cost on: so a state that is come to from another one has its least cost by then.
        for cost in range(highest + 1):
            while left[cost]:
                number = left[cost].pop()
                for goal in self.nexts[number]:
                    if cost + ASTRAY < costs[goal]:
                        costs[goal] = cost + ASTRAY
                        left[cost + ASTRAY].append(goal)

    def least_costs(self):
        """The least cost of each state (i, v): a list of lists."""
        table = [[0] * len(self.nexts)]
        for index in range(len(self.row)):
            table.append(self.costs_behind(table[-1], index))
        return table


def befores_of(nexts):
    """For each written thing and the end those from which one comes to it."""
    told = [[] for goals in nexts]
    for number, goals in enumerate(nexts):
        for goal in goals:
            told[goal].append(number)
    return told


def step_to(music, table, befores, state):
    """A step by which one comes to a state (i, v) at its least cost, i above 0, and the state from which."""
    index, number = state
    cost = table[index][number]
    for before in befores[number]:
        if table[index - 1][before] + hear_cost(music.row[index - 1], music.things[before]) == cost:
            return ("hear", index - 1, before), (index - 1, before)
        if table[index][before] + ASTRAY == cost:
            return ("miss", before), (index, before)
    return ("more", index - 1), (index - 1, number)


def way_of(music, table):
    """A way of the least cost, which the table has."""
    befores = befores_of(music.nexts)
    state = (len(music.row), table[-1].index(min(table[-1])))
    told = []
    # With nothing heard yet a way may begin anywhere.
    while state[0] > 0:
        step, state = step_to(music, table, befores, state)
        told.append(step)
    return tuple(told[::-1])


def heard(score, name, row):
    """(cost, way, table): the least cost of the heard row, a way that has it, and a table that shows it."""
    music = Music(score, name, row)
    table = music.least_costs()
    return (min(table[-1]), way_of(music, table), tuple([tuple(costs) for costs in table]))
