import copy
import random
import unittest

from making import (
    HALF, NOUGHT, ONE, TWO, bar, call, ended, filled, fraction, group, one_part, pace, part, repeat, rest, score, sign,
    some_score, tone, turn, use, voiced, wait,
)

from manyclocks.errors import TooLong
from manyclocks.lines import line
from manyclocks.scores import checked
from manyclocks.walks import walk
from manyclocks.written import nexts, written

MANY_BARS = filled(tone(1, HALF), tone(2, HALF))


def reached(entries, place, steps):
    """The places of bars, and the end, that one comes to from a place by at most so many turns."""
    if place == len(entries) or entries[place][0] == "bar":
        return {place}
    if steps == 0:
        return set()
    return {end for goal in entries[place][1] for end in reached(entries, goal, steps - 1)}


class Written(unittest.TestCase):
    def tells(self, handed, told):
        checked(handed)
        found = written(handed, "a")
        self.assertIsInstance(found, list)
        self.assertEqual(found, told)

    def test_tones_and_rests_of_voice_nought(self):
        first = voiced((tone((60, 64)), call("x"), rest(HALF), pace(TWO), tone(60, HALF, True, True), wait("z", "x")),
                       (tone(70, TWO),))
        self.tells(one_part(first, bar(61)), [
            ((60, 64), ONE, (0,)), ((), HALF, (0,)), ((60,), HALF, (0,)), ((61,), ONE, (1,))])

    def test_groups_come_to_their_lengths(self):
        things = filled(group(3, 2, tone(60), group(2, 1, tone(61), rest()), tone(62)), rest())
        third = (2, 3)
        self.tells(one_part(things), [
            ((60,), third, (0,)), ((61,), (1, 3), (0,)), ((), (1, 3), (0,)), ((62,), third, (0,)), ((), ONE, (0,))])

    def test_phrases_move_and_stretch(self):
        phrases = {"p": (filled(tone(60), rest()),), "q": (bar(50), use("p", 3, HALF))}
        self.tells(one_part(use("q", -1, TWO), bar(), phrases=phrases), [
            ((49,), TWO, (0, 0)), ((62,), ONE, (0, 1, 0)), ((), ONE, (0, 1, 0)), ((60,), ONE, (1,))])

    def test_bars_in_repeats_and_endings_stand_once(self):
        things = ended(3, (bar(1), bar(2)), ((1, 3), (bar(3),)), ((2,), (bar(4), bar(5))))
        self.tells(one_part(things, turn(None), bar(6)), [
            ((pitch,), ONE, way) for pitch, way in
            zip(range(1, 7), [(0, 0), (0, 1), (0, 2), (0, 3), (0, 4), (2,)])])

    def test_bars_that_are_never_walked_are_written(self):
        self.tells(one_part(turn("s"), bar(1), sign("s")), [((1,), ONE, (1,))])

    def test_a_part_of_no_bars(self):
        for handed in [one_part(), one_part(repeat(2)), one_part(sign("s"), turn(None))]:
            self.tells(handed, [])
            self.assertEqual(nexts(handed, "a"), [])

    def test_a_walk_that_is_too_long_is_not_needed(self):
        handed = score(part("a", bar(1), sign("s"), turn("s")), part("b", sign("s"), turn("s")))
        self.tells(handed, [((1,), ONE, (0,))])

    def test_a_line_that_is_too_long(self):
        handed = score(part("a", *[use("p")] * 34), part("b", bar()), phrases=[("p", (bar(),) * 60)])
        for asked in [written, nexts]:
            with self.assertRaises(TooLong):
                asked(handed, "a")
            self.assertEqual(len(asked(handed, "b")), 1)


class Nexts(unittest.TestCase):
    def tells(self, things, told, phrases=()):
        handed = one_part(*things, phrases=phrases)
        checked(handed)
        found = nexts(handed, "a")
        self.assertIsInstance(found, list)
        self.assertEqual(found, told)
        self.assertTrue(all(isinstance(row, list) for row in found))

    def test_within_a_bar_and_on_to_the_next(self):
        self.tells([filled(tone(), rest(), tone()), bar()], [[1], [2], [3], [4]])
        self.tells([filled(group(3, 2, tone(), group(2, 1, rest(), rest())), rest(HALF))], [[1], [2], [3], [4]])

    def test_repeats_and_what_follows(self):
        self.tells([bar(), repeat(3, MANY_BARS, bar()), bar()], [[1], [2], [3], [1, 4], [5]])
        self.tells([repeat(1, bar())], [[1]])
        self.tells([repeat(2, bar())], [[0, 1]])
        self.tells([repeat(2, repeat(2, bar()), bar()), repeat(2)], [[0, 1], [0, 2]])

    def test_endings(self):
        self.tells([ended(3, (bar(),), ((1, 3), (bar(),)), ((2,), (bar(),))), bar()], [[1, 2], [0, 3], [0], [4]])
        # An ending without bars leads on at once.
        self.tells([ended(2, (bar(),), ((1,), ()), ((2,), (bar(),))), bar()], [[0, 1], [2], [3]])
        self.tells([bar(), ended(2, (), ((1,), (bar(),)), ((2,), (bar(),)))], [[1, 2], [1, 2], [3]])

    def test_turns_with_several_goals(self):
        self.tells([sign("s"), bar(), bar(), turn("s", None, "t"), MANY_BARS, sign("t"), bar()],
                   [[1], [0, 2, 4], [3], [4], [5]])
        self.tells([sign("s"), bar(), turn("s", "s", "s")], [[0]])
        self.tells([bar(), turn("t"), bar(), sign("t")], [[2], [2]])

    def test_turns_behind_turns(self):
        self.tells([sign("s"), bar(), turn(None, None), turn(None, "t"), turn("s", None), bar(), sign("t")],
                   [[0, 1, 2], [2]])

    def test_rings_of_turns_lead_to_the_end(self):
        self.tells([bar(), sign("s"), turn("s")], [[1]])
        self.tells([bar(), bar(), sign("s"), turn(None), turn("s"), bar()], [[1], [3], [3]])
        # But not where another goal leads out of the ring.
        self.tells([bar(), sign("s"), turn("s", None), bar()], [[1], [2]])
        self.tells([bar(), sign("s"), turn("s", None, "s"), turn("s", "t"), bar(), sign("t")], [[2], [2]])

    def test_phrases_with_signs_of_their_own(self):
        phrases = {"p": (sign("s"), bar(), turn("s", None))}
        self.tells([use("p"), sign("s"), use("p"), turn("s", None)], [[0, 1], [1, 2]], phrases)

    def test_against_all_ways(self):
        for seed in range(60):
            chance = random.Random(seed)
            handed = some_score(chance)
            for name in [row[0] for row in handed[2]]:
                self.held_against(handed, name)
        things = [sign("s"), bar(), turn("t", None, "u"), MANY_BARS, sign("u"), turn("v", "v"), bar(), sign("t"),
                  repeat(3, repeat(2, bar(), turn("u", None)), sign("v")), turn("s", "t", None), bar()]
        handed = one_part(*things)
        checked(handed)
        self.held_against(handed, "a")

    def held_against(self, handed, name):
        entries = line(handed, name)
        told, rows = nexts(handed, name), written(handed, name)
        self.assertEqual(len(told), len(rows))
        bars = [at for at, entry in enumerate(entries) if entry[0] == "bar"]
        many = {at: len([row for row in rows if row[2] == entries[at][2]]) for at in bars}
        firsts = {at: sum(many[before] for before in bars if before < at) for at in [*bars, len(entries)]}
        for at in bars:
            for number in range(firsts[at], firsts[at] + many[at] - 1):
                self.assertEqual(told[number], [number + 1])
            ends = reached(entries, at + 1, 9) or {len(entries)}
            self.assertEqual(told[firsts[at] + many[at] - 1], sorted(firsts[end] for end in ends))
        # And the walk goes by these ways alone.
        places = walk(handed, name) + [len(entries)]
        for one, other in zip(places, places[1:]):
            self.assertIn(firsts[other], told[firsts[one] + many[one] - 1])

    def test_lengths_are_those_of_the_bars(self):
        for seed in range(30):
            handed = some_score(random.Random(seed))
            for name in [row[0] for row in handed[2]]:
                sizes = {entry[2]: fraction(entry[1][1]) for entry in line(handed, name) if entry[0] == "bar"}
                for pitches, length, way in written(handed, name):
                    sizes[way] -= fraction(length)
                self.assertEqual(set(sizes.values()) - {fraction(NOUGHT)}, set())

    def test_nothing_is_changed_and_all_is_new(self):
        handed = one_part(repeat(2, bar(), filled(tone(), rest())))
        before = copy.deepcopy(handed)
        for asked in [written, nexts]:
            again = copy.deepcopy(asked(handed, "a"))
            told = asked(handed, "a")
            for row in told:
                if isinstance(row, list):
                    row.append(99)
            self.assertEqual([len(row) for row in told], [len(row) + (asked is nexts) for row in again])
            told.clear()
            self.assertEqual(asked(handed, "a"), again)
        self.assertEqual(handed, before)


if __name__ == "__main__":
    unittest.main()
