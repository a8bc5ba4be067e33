import copy
import random
import unittest

from making import (
    HALF, ONE, TWO, bar, ended, filled, group, one_part, part, plain_cost, repeat, rest, score, sign, some_heard,
    some_score, steps_of, tone, turn, use, voiced,
)

from manyclocks.errors import TooLong
from manyclocks.heardpapers import shows_heard
from manyclocks.hearing import heard
from manyclocks.scores import checked
from manyclocks.written import nexts, written


def sound(*pitches, length=ONE):
    return (pitches, length)


def sounds(*pitches):
    return [sound(pitch) for pitch in pitches]


class Hearing(unittest.TestCase):
    def told(self, handed, row, name="a"):
        """What is told, held against all that point 24 says of it."""
        checked(handed)
        told = heard(handed, name, row)
        self.assertIsInstance(told, tuple)
        cost, way, table = told
        rows, behind = written(handed, name), nexts(handed, name)
        self.assertEqual(cost, plain_cost(rows, behind, row))
        self.assertEqual(self.gone(rows, behind, row, way), cost)
        self.shown(rows, behind, row, table, cost)
        self.assertTrue(shows_heard(handed, name, row, told))
        return told

    def gone(self, rows, behind, row, way):
        """What a way costs, gone step by step from wherever it may stand."""
        self.assertIsInstance(way, tuple)
        states = {(0, number): 0 for number in range(len(rows) + 1)}
        for step in way:
            self.assertIsInstance(step, tuple)
            on = {}
            for state, cost in states.items():
                for one, more, goal in steps_of(rows, behind, row, state):
                    if one == step:
                        on[goal] = cost + more
            self.assertTrue(on, step)
            states = on
        self.assertEqual({state[0] for state in states}, {len(row)})
        self.assertEqual(len(set(states.values())), 1)
        return min(states.values())

    def shown(self, rows, behind, row, table, cost):
        self.assertIsInstance(table, tuple)
        self.assertEqual([len(costs) for costs in table], [len(rows) + 1] * (len(row) + 1))
        self.assertTrue(all(isinstance(costs, tuple) for costs in table))
        self.assertTrue(all(isinstance(number, int) and number is not True for costs in table for number in costs))
        self.assertLessEqual(max(table[0]), 0)
        for index, costs in enumerate(table):
            for number in range(len(costs)):
                for step, more, goal in steps_of(rows, behind, row, (index, number)):
                    self.assertLessEqual(table[goal[0]][goal[1]], costs[number] + more)
        self.assertEqual(min(table[-1]), cost)

    def costs(self, cost, row, *things, **more):
        self.assertEqual(self.told(one_part(*things, **more), row)[0], cost)


class Rows(Hearing):
    def test_an_empty_row(self):
        for things in [(), (bar(), bar()), (repeat(2),)]:
            cost, way, table = self.told(one_part(*things), [])
            self.assertEqual((cost, way), (0, ()))
            self.assertEqual(table, ((0,) * (len(things) if things and things[0][0] == "bar" else 0) + (0,),))

    def test_rows_that_are_walked(self):
        things = bar(1), bar(2), filled(tone((3, 4), HALF), rest(HALF)), bar(5)
        row = [sound(1), sound(2), ((3, 4), HALF), ((), HALF), sound(5)]
        self.assertEqual(self.told(one_part(*things), row)[1], tuple(("hear", at, at) for at in range(5)))
        # From any thing on, and up to any one.
        for first in range(5):
            for last in range(first, 6):
                self.costs(0, row[first:last], *things)

    def test_left_out(self):
        things = bar(1), bar(2), bar(3), bar(4)
        # Here it is cheaper to take one for another.
        self.costs(1, sounds(1, 2, 4), *things)
        self.costs(1, sounds(1, 3, 4), *things)
        many = [bar(number) for number in range(1, 13)]
        self.costs(4, sounds(1, 2, 3, 4, 5, 8, 9, 10, 11, 12), *many)
        self.costs(3, sounds(1, 2, 3, 6, 7, 8), *many)
        cost, way, table = self.told(one_part(*many[:7]), sounds(1, 2, 3, 5, 6, 7))
        self.assertEqual(way, (("hear", 0, 0), ("hear", 1, 1), ("hear", 2, 2), ("miss", 3), ("hear", 3, 4),
                               ("hear", 4, 5), ("hear", 5, 6)))

    def test_put_in(self):
        things = bar(1), bar(2), bar(3), bar(4)
        self.costs(2, sounds(1, 2, 9, 3, 4), *things)
        self.costs(2, sounds(9, 1, 2, 3, 4), *things)
        self.costs(2, sounds(1, 2, 3, 4, 9), *things)
        cost, way, table = self.told(one_part(*things), sounds(1, 2, 9, 3, 4))
        self.assertEqual(way, (("hear", 0, 0), ("hear", 1, 1), ("more", 2), ("hear", 3, 2), ("hear", 4, 3)))

    def test_other_pitches_lengths_and_both(self):
        things = bar(1), bar(2), bar(3)
        self.costs(1, sounds(1, 9, 3), *things)
        self.costs(1, [sound(1), sound(), sound(3)], *things)
        self.costs(1, [sound(1), sound(2, 3), sound(3)], *things)
        self.costs(1, [sound(1), sound(2, length=HALF), sound(3)], *things)
        self.costs(2, [sound(1), sound(9, length=HALF), sound(3)], *things)
        # A length is heard as it comes to, in groups and phrases, too.
        self.costs(0, [sound(1, length=(2, 3)), ((), (2, 3))], filled(group(3, 2, tone(1), rest(), tone(2))))
        self.costs(0, [sound(3, length=HALF)], use("p", 2, HALF), phrases={"p": (bar(1),)})
        self.costs(1, [sound(1, length=HALF)], use("p", 2, HALF), phrases={"p": (bar(1),)})

    def test_ties_and_holds_are_not_heard(self):
        self.costs(0, sounds(1, 1), filled(tone(1, ONE, True, True)), bar(1))

    def test_voice_nought_alone(self):
        self.costs(2, [sound(8, length=TWO)], voiced((tone(1), tone(2)), (tone(8, TWO),), (rest(TWO),)))
        self.costs(0, sounds(1, 2), voiced((tone(1), tone(2)), (tone(8, TWO),)))


class Parts(Hearing):
    def test_of_no_bars(self):
        self.costs(0, [])
        cost, way, table = self.told(one_part(), sounds(1, 2))
        self.assertEqual((cost, way), (4, (("more", 0), ("more", 1))))

    def test_of_rests_alone(self):
        self.costs(0, [sound(), sound()], filled(rest()), filled(rest()))
        self.costs(2, [sound(), sound(1), sound(2)], filled(rest()), filled(rest()), filled(rest()))

    def test_round_and_round_a_turn(self):
        things = sign("s"), bar(1), bar(2), turn("s", None), bar(3)
        self.costs(0, sounds(1, 2, 1, 2, 1, 2, 1, 2, 3), *things)
        self.costs(2, sounds(1, 2, 1, 1, 2, 3), *things)
        self.costs(1, sounds(1, 2, 3, 2, 3), *things)

    def test_repeats_and_endings(self):
        things = ended(2, (bar(1), bar(2)), ((1,), (bar(3),)), ((2,), (bar(4),))), bar(5)
        self.costs(0, sounds(1, 2, 3, 1, 2, 4, 5), *things)
        # By any goals: whatever the walk does.
        self.costs(0, sounds(1, 2, 4, 5), *things)
        self.costs(0, sounds(1, 2, 3, 1, 2, 3, 1), *things)
        self.costs(2, sounds(1, 2, 5, 6, 7), *things, bar(6), bar(7))
        self.costs(0, sounds(7, 7, 7, 7), repeat(1, repeat(2, bar(7))), bar(8))

    def test_uses(self):
        phrases = {"p": (bar(1), repeat(2, bar(2)))}
        self.costs(0, sounds(1, 2, 2, 2, 11, 12), use("p"), use("p", 10), phrases=phrases)

    def test_a_ring_of_turns_is_the_end(self):
        self.costs(2, sounds(1, 2), bar(1), sign("s"), turn("s"), bar(2))

    def test_a_line_that_is_too_long(self):
        handed = score(part("a", *[use("p")] * 34), part("b", sign("s"), bar(), turn("s")),
                       phrases=[("p", (bar(),) * 60)])
        with self.assertRaises(TooLong):
            heard(handed, "a", [])
        # Only the part's own line is needed, no walk.
        self.assertEqual(self.told(handed, sounds(60, 60), "b")[0], 0)


class Whole(Hearing):
    def test_against_a_plain_search(self):
        costs = []
        for seed in range(250):
            chance = random.Random(seed)
            handed = some_score(chance)
            name = chance.choice(handed[2])[0]
            row = some_heard(chance, written(handed, name), nexts(handed, name))
            costs.append(self.told(handed, row, name)[0])
        self.assertGreater(len(set(costs)), 5)

    def test_many_things(self):
        things = [sign("s"), *[bar(number % 7) for number in range(50)], turn("s", None)]
        row = [((number * number % 7,), ONE if number % 5 else HALF) for number in range(40)]
        self.told(one_part(*things), row)

    def test_nothing_is_changed(self):
        handed, row = one_part(bar(1), bar(2)), sounds(1, 3, 2)
        before = copy.deepcopy((handed, row))
        self.assertEqual(heard(handed, "a", row), heard(handed, "a", row))
        self.assertEqual((handed, row), before)


if __name__ == "__main__":
    unittest.main()
