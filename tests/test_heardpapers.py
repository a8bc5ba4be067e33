import copy
import random
import unittest

from making import (
    HALF, ONE, bar, filled, odd_things, one_part, part, plain_things, rest, score, sign, some_heard, some_score, spoilt,
    spots, steps_of, tone, turn, use,
)

from manyclocks.errors import TooLong
from manyclocks.heardpapers import shows_heard
from manyclocks.hearing import heard
from manyclocks.written import nexts, written

THINGS = (sign("s"), bar(1), bar(2), turn("s", None), bar(3), filled(tone(4, HALF), rest(HALF)))
HANDED = one_part(*THINGS)
# Written are 1, 2, 3, 4, a rest, and the end is 5; behind 2 comes 1 or 3.
ROW = [((1,), ONE), ((2,), ONE), ((9,), HALF), ((1,), ONE), ((2,), ONE), ((4,), HALF)]


class Papers(unittest.TestCase):
    def shows(self, told, row=ROW, handed=HANDED):
        found = shows_heard(handed, "a", row, told)
        self.assertIs(found, True)

    def refuses(self, told, row=ROW, handed=HANDED):
        found = shows_heard(handed, "a", row, told)
        self.assertIs(found, False)


class Shown(Papers):
    def test_what_heard_tells(self):
        for row in [[], ROW, ROW[:3], ROW[2:3] * 5]:
            self.shows(heard(HANDED, "a", row), row)

    def test_what_heard_tells_of_many(self):
        for seed in range(120):
            chance = random.Random(seed)
            handed = some_score(chance)
            for name in [there[0] for there in handed[2]]:
                row = some_heard(chance, written(handed, name), nexts(handed, name))
                told = heard(handed, name, row)
                self.assertIs(shows_heard(handed, name, row, told), True)
                for cost in [told[0] - 1, told[0] + 1]:
                    self.assertIs(shows_heard(handed, name, row, (cost, *told[1:])), False)

    def test_other_ways_of_this_cost(self):
        cost, way, table = heard(HANDED, "a", ROW)
        self.assertEqual(cost, 4)
        tail = (("hear", 3, 0), ("hear", 4, 1), ("miss", 2), ("hear", 5, 3))
        ways = [
            (("hear", 0, 0), ("hear", 1, 1), ("more", 2), *tail),
            (("hear", 0, 0), ("hear", 1, 1), ("more", 2), ("hear", 3, 0), ("hear", 4, 1), ("hear", 5, 2)),
            (("hear", 0, 0), ("hear", 1, 1), ("more", 2), ("hear", 3, 0), ("hear", 4, 1), ("more", 5)),
            (("hear", 0, 0), ("hear", 1, 1), ("more", 2), ("hear", 3, 0), ("hear", 4, 1), ("hear", 5, 0)),
        ]
        for other in ways:
            self.shows((cost, other, table))

    def test_a_row_of_nothing_may_be_told_by_no_way_but_this(self):
        table = ((0,) * 6,)
        self.shows((0, (), table), [])
        self.refuses((2, (("miss", 0),), table), [])
        self.refuses((0, (("miss", 0),), table), [])

    def test_tables_with_lesser_numbers(self):
        cost, way, table = heard(HANDED, "a", ROW)
        # Numbers of the last row that are above the cost may be less.
        self.assertGreater(max(table[-1]), cost)
        self.shows((cost, way, (*table[:-1], (cost,) * 6)))
        # And so may all, as long as the cost is the least number of the last row.
        row = ROW[:2]
        self.shows((0, (("hear", 0, 0), ("hear", 1, 1)), ((0,) * 6,) * 3), row)
        self.shows((0, (("hear", 0, 0),), ((0, 0, 0, 0, 0, -2), (1, 0, 0, 0, 0, 0))), row[:1])
        # But not less than what follows needs.
        self.refuses((0, (("hear", 0, 0),), ((0, 0, 0, 0, 0, -3), (1, 0, 0, 0, 0, 0))), row[:1])
        self.refuses((0, way, ((0,) * 6,) * 7))


def costs_without(word, rows, behind, row):
    """The least costs of all states, and a way of the least one of the last row, by steps of other words alone."""
    states = [(index, number) for index in range(len(row) + 1) for number in range(len(rows) + 1)]
    costs = {state: 0 if state[0] == 0 else 1000 for state in states}
    ways = {state: () for state in states}
    for _ in range(len(states)):
        for state in states:
            for step, more, goal in steps_of(rows, behind, row, state):
                if step[0] != word and costs[state] + more < costs[goal]:
                    costs[goal], ways[goal] = costs[state] + more, (*ways[state], step)
    last = min(states[-len(rows) - 1:], key=lambda state: costs[state])
    table = tuple(tuple(costs[index, number] for number in range(len(rows) + 1)) for index in range(len(row) + 1))
    return costs[last], ways[last], table


class Refused(Papers):
    def setUp(self):
        self.cost, self.way, self.table = heard(HANDED, "a", ROW)

    def test_another_cost(self):
        for cost in [self.cost - 1, self.cost + 1, -self.cost, 0, None, True, "4", (4,), [4]]:
            self.refuses((cost, self.way, self.table))
        told = heard(HANDED, "a", ROW[:1])
        self.assertEqual(told[0], 0)
        self.refuses((False, *told[1:]), ROW[:1])
        one = heard(HANDED, "a", [((9,), ONE)])
        self.assertEqual(one[0], 1)
        self.refuses((True, *one[1:]), [((9,), ONE)])

    def test_dearer_ways(self):
        way = tuple(("more", index) for index in range(6))
        self.refuses((12, way, self.table))
        self.refuses((4, way, self.table))

    def test_tables_that_forget_a_word(self):
        handed = one_part(*[bar(number) for number in range(1, 13)])
        rows, behind = written(handed, "a"), nexts(handed, "a")
        fewer = [((number,), ONE) for number in [1, 2, 3, 4, 5, 8, 9, 10, 11, 12]]
        more = [((number,), ONE) for number in [1, 2, 3, 4, 5, 20, 6, 7, 8, 9, 10]]
        for word, row, dear in [("miss", fewer, 5), ("more", more, 6), ("hear", fewer[:3], 6)]:
            told = costs_without(word, rows, behind, row)
            self.assertEqual(told[0], dear)
            self.refuses(told, row, handed)
            # With all words, told so, it is taken.
            told = costs_without(None, rows, behind, row)
            self.assertLess(told[0], dear)
            self.shows(told, row, handed)

    def test_heard_things_that_are_left_over(self):
        row = [((9,), (1, 3))]
        cost, way, table = heard(HANDED, "a", row)
        self.assertEqual(cost, 2)
        self.shows((2, (("more", 0),), table), row)
        self.refuses((2, (("miss", 0),), table), row)

    def test_heard_things_that_are_not_there(self):
        for number in range(6):
            self.refuses((self.cost, self.way + (("hear", 6, number),), self.table))
            self.refuses((0, (("hear", 0, number),), ((0,) * 6,)), [])

    def test_the_end_is_not_heard(self):
        row = [((), HALF), ((), HALF)]
        self.refuses((0, (("hear", 0, 4), ("hear", 1, 5)), heard(HANDED, "a", row)[2]), row)
        self.refuses((0, (("hear", 0, 5), ("hear", 1, 5)), heard(HANDED, "a", row)[2]), row)

    def test_steps_left_out_and_twice(self):
        for at in range(len(self.way)):
            self.refuses((self.cost, self.way[:at] + self.way[at + 1:], self.table))
            self.refuses((self.cost, self.way[:at + 1] + self.way[at:], self.table))
        self.refuses((self.cost, (), self.table))
        self.refuses((self.cost, self.way + (("more", 6),), self.table))
        self.refuses((self.cost, self.way[::-1], self.table))

    def test_steps_of_another_word_number_or_length(self):
        way = (("hear", 0, 0), ("hear", 1, 1), ("more", 2), ("hear", 3, 0), ("hear", 4, 1), ("miss", 2), ("hear", 5, 3))
        self.shows((4, way, self.table))
        for at, step in enumerate(way):
            others = [
                ("heard", *step[1:]), ("Hear", *step[1:]), (None, *step[1:]), (*step, 0), step[:-1], (), list(step),
                (step,), step[0], None, ("hear", -1, 0), (*step[:-1], step[-1] + 1), (*step[:-1], None),
                (*step[:-1], bool(step[-1])), (*step[:-1], str(step[-1])), (*step[:-1], -1), (*step[:-1], 99),
                ("hear", at, 5), ("miss", 5), ("miss", 4), ("more", at + 1),
            ]
            for other in others:
                if other != step:
                    self.refuses((4, way[:at] + (other,) + way[at + 1:], self.table))

    def test_truths_for_numbers(self):
        way = (("hear", 0, 0), ("hear", 1, 1), ("more", 2), ("hear", 3, 0), ("hear", 4, 1), ("miss", 2), ("hear", 5, 3))
        for at, other in [(0, ("hear", False, 0)), (0, ("hear", 0, False)), (1, ("hear", True, 1)),
                          (1, ("hear", 1, True))]:
            self.refuses((4, way[:at] + (other,) + way[at + 1:], self.table))
        self.refuses((4, way, ((False,) + self.table[0][1:], *self.table[1:])))

    def test_a_missed_end_and_things_that_cannot_come_next(self):
        row = [((1,), ONE), ((3,), ONE)]
        told = heard(HANDED, "a", row)
        self.assertEqual(told[0], 1)
        # 3 isn't next to 1, and from the end one comes nowhere.
        self.refuses((0, (("hear", 0, 0), ("hear", 1, 2)), ((0,) * 6,) * 3), row)
        self.refuses((1, (("hear", 0, 0), ("hear", 1, 2)), told[2]), row)
        self.refuses((2, (("miss", 5), ("hear", 0, 0)), heard(HANDED, "a", row[:1])[2]), row[:1])
        self.refuses((4, (("hear", 0, 4), ("miss", 5), ("more", 1)), told[2]), row)

    def test_heard_things_out_of_order(self):
        row = [((1,), ONE), ((1,), ONE)]
        handed = one_part(bar(1), bar(1))
        table = heard(handed, "a", row)[2]
        self.shows((0, (("hear", 0, 0), ("hear", 1, 1)), table), row, handed)
        for way in [(("hear", 1, 0), ("hear", 0, 1)), (("hear", 0, 0), ("hear", 0, 1)), (("hear", 1, 0), ("hear", 2, 1)),
                    (("hear", 0, 1), ("hear", 1, 0)), (("hear", 0, 0), ("hear", 1, 0))]:
            self.refuses((0, way, table), row, handed)

    def test_tables_of_other_sizes(self):
        table = self.table
        for other in [table[:-1], table[1:], (*table, table[-1]), (table[0], *table), (), (table,),
                      (*table[:-1], table[-1][:-1]), (*table[:-1], (*table[-1], 9)), (table[0][1:], *table[1:]),
                      ((0, *table[0]), *table[1:]), (*table[:-1], ())]:
            self.refuses((self.cost, self.way, other))

    def test_a_first_row_above_nought(self):
        for at in range(6):
            first = tuple(int(number == at) for number in range(6))
            self.refuses((self.cost, self.way, (first, *self.table[1:])))
        # Not even where all is as much greater.
        more = tuple(tuple(number + 1 for number in costs) for costs in self.table)
        self.refuses((self.cost, self.way, more))
        self.refuses((self.cost + 1, self.way, more))

    def test_numbers_that_are_too_great_or_too_little(self):
        for at in range(1, len(self.table)):
            for number in range(6):
                costs = list(self.table[at])
                costs[number] += 1
                self.refuses((self.cost, self.way, (*self.table[:at], tuple(costs), *self.table[at + 1:])))
        for number in range(6):
            costs = list(self.table[-1])
            costs[number] = self.cost - 1
            self.refuses((self.cost, self.way, (*self.table[:-1], tuple(costs))))

    def test_a_number_that_only_a_miss_forbids(self):
        # Behind 1 comes 2: no number of 2 is more than 2 above that of 1, in the first row, too.
        row = [((1,), ONE)]
        handed = one_part(bar(1), bar(2))
        self.shows((0, (("hear", 0, 0),), ((0, 0, 0), (2, 0, 1))), row, handed)
        self.refuses((0, (("hear", 0, 0),), ((-3, 0, 0), (-1, -3, 0))), row, handed)
        self.refuses((0, (("hear", 0, 0),), ((0, 0, 0), (2, 0, 3))), row, handed)

    def test_lists_for_tuples(self):
        told = (self.cost, self.way, self.table)
        self.refuses(list(told))
        self.refuses((self.cost, list(self.way), self.table))
        self.refuses((self.cost, self.way, list(self.table)))
        self.refuses((self.cost, (list(self.way[0]), *self.way[1:]), self.table))
        self.refuses((self.cost, self.way, (list(self.table[0]), *self.table[1:])))

    def test_tuples_of_other_lengths(self):
        told = (self.cost, self.way, self.table)
        for other in [(), told[:2], told[1:], (*told, 0), (told,), (told, told, told), told[::-1]]:
            self.refuses(other)

    def test_things_of_any_kind(self):
        for thing in odd_things() + plain_things():
            self.refuses(thing)

    def test_things_of_any_kind_within(self):
        told = (self.cost, self.way, self.table)
        ways = [way for way in spots(told) if way]
        chance = random.Random(5)
        for thing in odd_things() + [None, True, False, 10 ** 30, "", "a", (), (1,), (True, 1), ("tone",)]:
            for way in chance.sample(ways, 12):
                self.refuses(spoilt(told, way, thing))


class Edges(Papers):
    def test_a_line_that_is_too_long(self):
        handed = score(part("a", *[use("p")] * 34), part("b", sign("s"), bar(), turn("s")),
                       phrases=[("p", (bar(),) * 60)])
        for told in [(), (0, (), ((0,),)), (1,)]:
            with self.assertRaises(TooLong):
                shows_heard(handed, "a", [], told)
        # What is no tuple is no paper ahead of all.
        for told in [None, [], 1, "", {}]:
            self.assertIs(shows_heard(handed, "a", [], told), False)
        self.assertIs(shows_heard(handed, "b", [], (0, (), ((0, 0),))), True)

    def test_of_no_bars(self):
        self.shows((0, (), ((0,),)), [], one_part())
        self.shows((2, (("more", 0),), ((0,), (2,))), ROW[:1], one_part())
        self.refuses((2, (("more", 0),), ((0,), (1,))), ROW[:1], one_part())
        self.refuses((0, (("hear", 0, 0),), ((0,), (0,))), ROW[:1], one_part())
        self.refuses((2, (("miss", 0),), ((0,),)), [], one_part())

    def test_nothing_is_changed(self):
        told = heard(HANDED, "a", ROW)
        before = copy.deepcopy((HANDED, ROW, told))
        self.shows(told)
        self.assertEqual((HANDED, ROW, told), before)


if __name__ == "__main__":
    unittest.main()
