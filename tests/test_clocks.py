import random
import unittest
from fractions import Fraction

from making import HALF, NOUGHT, ONE, TWO, clock, fraction, pair, part, rich_score, score

from manyclocks.clocks import place_at, time_at
from manyclocks.paces import span
from manyclocks.scores import checked

LETTERS = "abcdefghijkl"


def clocks_alone(*clocks):
    handed = score(part("a"), clocks=clocks)
    checked(handed)
    return handed


class Clocks(unittest.TestCase):
    def both(self, handed, on, place, time):
        self.assertEqual(time_at(handed, on, place), time)
        self.assertEqual(place_at(handed, on, time), place)

    def test_time_itself(self):
        for handed in [rich_score(), clocks_alone()]:
            for place in [NOUGHT, HALF, (999, 7)]:
                self.both(handed, None, place, place)

    def test_a_plain_clock(self):
        handed = clocks_alone(clock("c"), clock("d", None, (3, 2)))
        self.both(handed, "c", NOUGHT, NOUGHT)
        self.both(handed, "c", (7, 3), (7, 3))
        self.both(handed, "d", NOUGHT, (3, 2))
        self.both(handed, "d", TWO, (7, 2))

    def test_marks(self):
        marks = ((ONE, ("pace", (3, 1))), (TWO, ("lean", ONE, TWO, 2)))
        handed = clocks_alone(clock("c", None, HALF, *marks))
        self.both(handed, "c", NOUGHT, HALF)
        self.both(handed, "c", ONE, (3, 2))
        self.both(handed, "c", (4, 3), (5, 2))
        self.both(handed, "c", TWO, (9, 2))
        self.both(handed, "c", (3, 1), (11, 2))
        self.both(handed, "c", (4, 1), (7, 1))
        self.both(handed, "c", (6, 1), (11, 1))

    def test_on_another_clock(self):
        slow = clock("slow", None, ONE, (NOUGHT, ("pace", TWO)), ((3, 1), ("pace", HALF)))
        fast = clock("fast", "slow", TWO, (NOUGHT, ("pace", HALF)))
        handed = clocks_alone(fast, slow)
        # The place 0 of fast is at the place 2 of slow, which is at the time 5.
        self.both(handed, "fast", NOUGHT, (5, 1))
        self.both(handed, "fast", ONE, (6, 1))
        self.both(handed, "fast", TWO, (7, 1))
        self.both(handed, "fast", (4, 1), (15, 2))
        self.both(handed, "slow", (4, 1), (15, 2))

    def test_ahead_of_its_place_0(self):
        handed = clocks_alone(clock("b", "c", TWO), clock("c", None, (3, 1), (NOUGHT, ("pace", TWO))), clock("d"))
        self.assertIsNone(place_at(handed, "c", NOUGHT))
        self.assertIsNone(place_at(handed, "c", (299, 100)))
        self.assertEqual(place_at(handed, "c", (3, 1)), NOUGHT)
        self.assertEqual(place_at(handed, "d", NOUGHT), NOUGHT)
        # What it hangs on hasn't begun, then has, but not come to its begin.
        self.assertIsNone(place_at(handed, "b", ONE))
        self.assertIsNone(place_at(handed, "b", (3, 1)))
        self.assertIsNone(place_at(handed, "b", (699, 100)))
        self.assertEqual(place_at(handed, "b", (7, 1)), NOUGHT)
        self.assertEqual(place_at(handed, "b", (9, 1)), ONE)

    def test_twelve_deep(self):
        rows = []
        for number, name in enumerate(LETTERS):
            on = LETTERS[number - 1] if number else None
            rows.append(clock(name, on, ONE, (NOUGHT, ("pace", (number + 1, number + 2)))))
        handed = clocks_alone(*rows)
        for name in LETTERS:
            self.assertEqual(time_at(handed, name, NOUGHT), self.plain_time(rows, name, 0))
            for place in [NOUGHT, HALF, (7, 3), (1000, 1)]:
                self.both(handed, name, place, self.plain_time(rows, name, fraction(place)))
        self.assertIsNone(place_at(handed, "l", NOUGHT))

    def plain_time(self, rows, name, place):
        """By hand for clocks of one pace, each on the one ahead."""
        told = Fraction(place)
        for row in reversed(rows[:LETTERS.index(name) + 1]):
            told = fraction(row[2]) + told * fraction(row[3][0][1][1])
        return pair(told)

    def test_both_ways_about(self):
        chance = random.Random(5)
        for _ in range(60):
            rows = []
            for number, name in enumerate(LETTERS[:5]):
                marks, at = [], 0
                for _ in range(chance.randrange(4)):
                    marks.append((pair(at), chance.choice([("pace", (2, 3)), ("lean", HALF, TWO, 3), ("lean", TWO, ONE, 7)])))
                    at += Fraction(chance.randrange(1, 9), 2)
                on = chance.choice([None, *LETTERS[:number]])
                rows.append(clock(name, on, pair(Fraction(chance.randrange(5), 3)), *marks))
            handed = clocks_alone(*rows)
            for name, on, begin, marks in rows:
                for place in [NOUGHT, (1, 3), TWO, (17, 4)]:
                    time = time_at(handed, name, place)
                    self.assertEqual(place_at(handed, name, time), place)
                    self.assertEqual(fraction(place_at(handed, on, time)), fraction(begin) + fraction(span(marks, NOUGHT, place)))

    def test_what_was_handed_in_is_as_it_was(self):
        handed = rich_score()
        time_at(handed, "beat", (7, 2))
        place_at(handed, "beat", (7, 2))
        self.assertEqual(handed, rich_score())


if __name__ == "__main__":
    unittest.main()
