import copy
import itertools
import random
import unittest

from making import (
    HALF, NOUGHT, ONE, TWO, Stage, at_spot, bar, call, filled, odd_things, part, plain_things, repeat, rest,
    rich_score, score, sign, some_gives, some_score, spoilt, spots, turn, wait, whole,
)

from manyclocks.errors import TooLong
from manyclocks.scores import checked
from manyclocks.timepapers import paper, shows_times

# b waits for a's call, which a gives behind its own first wait; c waits for a give; d stands for ever.
PARTS = score(
    part("a", filled(wait("z", "x"), rest(), call("x"), wait("b", "y"), rest())),
    part("b", filled(wait("a", "x"), rest(HALF), call("y"), rest(HALF))),
    part("c", filled(rest(TWO), wait("z", "y"), rest())),
    part("d", filled(wait("z", "n"), rest())),
)
GIVES = [(ONE, "z", "x"), (ONE, "z", "y")]
ROWS = [("a", ONE), ("b", TWO), ("a", (5, 2)), ("c", TWO)]


class Papers(unittest.TestCase):
    def test_what_it_tells(self):
        checked(PARTS)
        told = paper(PARTS, GIVES)
        self.assertIsInstance(told, tuple)
        self.assertEqual(sorted(told), sorted(ROWS))
        self.assertIs(shows_times(PARTS, GIVES, told), True)

    def test_no_waits(self):
        for handed in [score(part("a")), score(part("a", bar()), part("b", filled(call("x"), rest())))]:
            self.assertEqual(paper(handed, []), ())
            self.assertIs(shows_times(handed, [], ()), True)
            self.assertIs(shows_times(handed, [], (("a", NOUGHT),)), False)

    def test_no_wait_ends(self):
        handed = score(part("a", filled(wait("a", "x"), rest())), part("b", filled(wait("z", "x"), rest())))
        self.assertEqual(paper(handed, []), ())
        self.assertIs(shows_times(handed, [], ()), True)
        for name in "ab":
            self.assertIs(shows_times(handed, [], ((name, NOUGHT),)), False)

    def test_against_the_plain_stage(self):
        for seed in range(100):
            chance = random.Random(seed)
            handed, gives = some_score(chance), some_gives(chance)
            told = paper(handed, gives)
            self.assertIs(shows_times(handed, gives, told), True)
            stage = Stage(handed, gives)
            for name in stage.log:
                ended = [row[1] for row in stage.times(name, "wait") if row[1] is not None]
                self.assertEqual([row[1] for row in told if row[0] == name], ended)

    def test_long_rows(self):
        step = filled(wait("b", "x"), rest(), call("x"))
        other = filled(call("x"), rest(), wait("a", "x"))
        handed = score(part("a", repeat(9, repeat(9, step))), part("b", repeat(9, repeat(9, other))))
        told = paper(handed, [])
        self.assertEqual(len(told), 162)
        self.assertIs(shows_times(handed, [], told), True)
        self.assertIs(shows_times(handed, [], told[:-1]), False)

    def test_all_walks_are_needed(self):
        handed = score(part("a", bar()), part("b", sign("s"), bar(), turn("s")))
        with self.assertRaises(TooLong):
            paper(handed, [])
        for told in [(), ("a",), ([],), (("a", NOUGHT),)]:
            with self.assertRaises(TooLong):
                shows_times(handed, [], told)
        for thing in odd_things() + [thing for thing in plain_things() if not isinstance(thing, tuple)]:
            self.assertIs(shows_times(handed, [], thing), False)

    def test_nothing_is_changed(self):
        before = copy.deepcopy((PARTS, GIVES))
        told = paper(PARTS, GIVES)
        shows_times(PARTS, GIVES, told)
        self.assertEqual((PARTS, GIVES), before)
        self.assertEqual(paper(PARTS, GIVES), told)


class Shown(unittest.TestCase):
    def taken(self, *rows):
        told = shows_times(PARTS, GIVES, tuple(rows))
        self.assertIsInstance(told, bool)
        return told

    def test_rows_in_all_orders(self):
        # Just those in which each wait's call is given by what the rows ahead lead to.
        for rows in itertools.permutations(ROWS):
            order = [row for row in rows if row[0] != "c"]
            self.assertIs(self.taken(*rows), order == ROWS[:3], rows)

    def test_a_row_fewer(self):
        for number in range(4):
            self.assertIs(self.taken(*ROWS[:number], *ROWS[number + 1:]), False)
        self.assertIs(self.taken(), False)

    def test_a_row_more(self):
        for number in range(5):
            for row in [*ROWS, ("d", ONE), ("d", NOUGHT), ("a", (7, 2)), ("z", ONE), ("", ONE), ()]:
                self.assertIs(self.taken(*ROWS[:number], row, *ROWS[number:]), False)

    def test_another_time(self):
        others = [NOUGHT, HALF, (3, 2), (5, 2), whole(3), (7, 2), (5, 3), (-1, 1), (True, 1), (1, True), (2, 2), (4, 2),
                  (10, 4), (-2, -1), (1, 0), (0, 0), None, 1, 2, "1", (), (1,), (2, 1, 1), [2, 1], (2, "1"), ("2", 1)]
        for number, (name, time) in enumerate(ROWS):
            for other in others:
                rows = [*ROWS[:number], (name, other), *ROWS[number + 1:]]
                # True is equal to 1, but it is no whole number.
                self.assertIs(self.taken(*rows), repr(other) == repr(time), rows)

    def test_another_name(self):
        for number, (name, time) in enumerate(ROWS):
            for other in ["z", "d", "e", "", "A", "a ", b"a", None, 0, True, (), ("a",), ["a"]]:
                self.assertIs(self.taken(*ROWS[:number], (other, time), *ROWS[number + 1:]), False)

    def test_anything(self):
        rows = tuple(ROWS)
        self.assertIs(shows_times(PARTS, GIVES, rows), True)
        for other in odd_things() + plain_things() + [list(rows), dict(rows), rich_score(), "abc"]:
            for way in spots(rows):
                same = repr(at_spot(rows, way)) == repr(other)
                self.assertIs(shows_times(PARTS, GIVES, spoilt(rows, way, other)), same, (way, repr(other)))
        for number in range(4):
            self.assertIs(shows_times(PARTS, GIVES, spoilt(rows, (number,), list(rows[number]))), False)
            self.assertIs(shows_times(PARTS, GIVES, spoilt(rows, (number, 1), list(rows[number][1]))), False)

    def test_in_other_scores(self):
        rows = tuple(ROWS)
        self.assertIs(shows_times(PARTS, [], rows), False)
        self.assertIs(shows_times(PARTS, GIVES[:1], rows), False)
        self.assertIs(shows_times(PARTS, GIVES + [(TWO, "z", "n")], rows), False)
        self.assertIs(shows_times(PARTS, GIVES + [(TWO, "z", "n")], rows + (("d", TWO),)), True)
        self.assertIs(shows_times(PARTS, [(HALF, "z", "x"), GIVES[1]], rows), False)
        self.assertIs(shows_times(PARTS, [(NOUGHT, "d", "x"), (NOUGHT, "a", "x"), *GIVES], rows), True)

    def test_spoilt_papers_of_some_scores(self):
        for seed in range(30):
            chance = random.Random(seed)
            handed, gives = some_score(chance), some_gives(chance)
            rows = paper(handed, gives)
            for number, (name, time) in enumerate(rows):
                self.assertIs(shows_times(handed, gives, rows[:number] + rows[number + 1:]), False)
                later = (name, (time[0] + time[1], time[1]))
                self.assertIs(shows_times(handed, gives, spoilt(rows, (number,), later)), False)


if __name__ == "__main__":
    unittest.main()
