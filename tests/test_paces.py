import itertools
import math
import random
import unittest
from fractions import Fraction

from making import HALF, NOUGHT, ONE, TWO, fraction, pair

from manyclocks.fractions import less, plus
from manyclocks.paces import reach, span

PLAIN = (((2, 1), ("pace", (3, 1))), ((4, 1), ("pace", (1, 2))))
UP = (((1, 2), ("lean", ONE, (3, 1), 4)),)


def beat_at(marks, place):
    """How long a beat is at a place, by the last mark that isn't behind it."""
    told = Fraction(1)
    for at, mark in marks:
        if fraction(at) <= place:
            told = fraction(mark[1])
            if mark[0] == "lean":
                many = min(math.floor(place - fraction(at)), mark[3])
                told += (fraction(mark[2]) - told) * many / mark[3]
    return told


def plain_span(marks, one, other):
    """The span, cut wherever a beat may change."""
    low, high = fraction(one), fraction(other)
    cuts = {low, high}
    for at, mark in marks:
        for beat in range(mark[3] + 1 if mark[0] == "lean" else 1):
            cuts.add(fraction(at) + beat)
    cuts = sorted(cut for cut in cuts if low <= cut <= high)
    return pair(sum((next_cut - cut) * beat_at(marks, cut) for cut, next_cut in itertools.pairwise(cuts)))


def some_marks(chance):
    told = []
    place = Fraction(0)
    for _ in range(chance.randrange(6)):
        place += Fraction(chance.randrange(0, 12), chance.randrange(1, 5))
        low = (chance.choice([1, 2, 5]), chance.choice([1, 3, 7]))
        if chance.randrange(2):
            told.append((pair(place), ("pace", low)))
        else:
            told.append((pair(place), ("lean", low, (chance.choice([1, 4, 11]), 5), chance.randrange(1, 9))))
    return told


class Spans(unittest.TestCase):
    def check(self, marks, one, other, told):
        """Both of a list and of a tuple, and both ways about."""
        for handed in [list(marks), tuple(marks)]:
            self.assertEqual(span(handed, one, other), told)
            self.assertEqual(reach(handed, one, told), other)
            self.assertIs(type(span(handed, one, other)), tuple)
            self.assertEqual(list(handed), list(marks))

    def test_no_marks(self):
        self.check((), NOUGHT, (5, 2), (5, 2))
        self.check((), (7, 3), (999, 1), (2990, 3))

    def test_paces(self):
        self.check(PLAIN, NOUGHT, TWO, TWO)
        self.check(PLAIN, NOUGHT, (3, 1), (5, 1))
        self.check(PLAIN, NOUGHT, (4, 1), (8, 1))
        self.check(PLAIN, NOUGHT, (10, 1), (11, 1))
        self.check(PLAIN, (7, 2), (5, 1), (2, 1))
        self.check(PLAIN, (5, 1), (6, 1), HALF)
        self.check(PLAIN, (4, 1), (5, 1), HALF)
        self.check(PLAIN, (2, 1), (3, 1), (3, 1))
        self.check(PLAIN, HALF, (5, 2), (3, 1))

    def test_a_mark_at_nought(self):
        self.check(((NOUGHT, ("pace", (2, 3))),), NOUGHT, (3, 1), TWO)
        self.check(((NOUGHT, ("lean", TWO, ONE, 2)),), NOUGHT, (3, 1), (9, 2))

    def test_ahead_of_the_first_mark(self):
        self.check((((5, 1), ("pace", TWO)),), ONE, (5, 1), (4, 1))
        self.check((((5, 1), ("lean", TWO, ONE, 9)),), (1, 3), (4, 1), (11, 3))

    def test_leans_up(self):
        # From 1/2 on beats of 1, 3/2, 2, 5/2, and then 3 each.
        self.check(UP, NOUGHT, HALF, HALF)
        self.check(UP, HALF, (3, 2), ONE)
        self.check(UP, HALF, (5, 2), (5, 2))
        self.check(UP, HALF, (7, 2), (9, 2))
        self.check(UP, HALF, (9, 2), (7, 1))
        self.check(UP, HALF, (11, 2), (10, 1))
        self.check(UP, NOUGHT, (1001, 2), (2 * 7 + 1 + 6 * 496, 2))

    def test_leans_down_and_even(self):
        down = ((NOUGHT, ("lean", (3, 1), ONE, 2)),)
        self.check(down, NOUGHT, ONE, (3, 1))
        self.check(down, NOUGHT, TWO, (5, 1))
        self.check(down, NOUGHT, (4, 1), (7, 1))
        even = ((NOUGHT, ("lean", TWO, TWO, 5)),)
        self.check(even, NOUGHT, (9, 1), (18, 1))
        one = ((ONE, ("lean", (3, 1), ONE, 1)),)
        self.check(one, NOUGHT, (3, 1), (5, 1))

    def test_within_a_beat(self):
        self.check(UP, (2, 1), (9, 4), (3, 8))
        self.check(UP, (9, 4), (11, 4), (7, 8))
        self.check(UP, (2, 1), (17, 4), (37, 8))

    def test_leans_cut_within_a_beat(self):
        cut = UP + (((9, 4), ("pace", (1, 5))),)
        self.check(cut, HALF, (9, 4), (17, 8))
        self.check(cut, HALF, (13, 4), (93, 40))
        self.check(cut, (9, 4), (99, 4), (9, 2))
        begin = UP + ((HALF, ("lean", TWO, ONE, 2)), ((3, 4), ("lean", ONE, TWO, 3)))
        self.check(begin, HALF, (3, 4), HALF)
        self.check(begin, HALF, (7, 4), (3, 2))
        self.check(begin, HALF, (11, 4), (17, 6))

    def test_two_marks_at_one_place(self):
        both = ((ONE, ("pace", (7, 1))), (ONE, ("pace", TWO)), (TWO, ("lean", ONE, TWO, 3)), (TWO, ("pace", (3, 1))))
        self.check(both, NOUGHT, (3, 1), (6, 1))
        self.check(both, ONE, TWO, TWO)
        first = ((NOUGHT, ("pace", (9, 1))), (NOUGHT, ("pace", (8, 1))), (NOUGHT, ("lean", ONE, (3, 1), 1)))
        self.check(first, NOUGHT, TWO, (4, 1))

    def test_far_behind(self):
        marks = ((ONE, ("lean", ONE, HALF, 99)),)
        self.assertEqual(span(marks, NOUGHT, (999999, 1)), plain_span(marks, NOUGHT, (999999, 1)))
        self.assertEqual(span(marks, (500000, 1), (999999, 1)), (499999, 2))
        self.assertEqual(reach(marks, (500000, 1), (499999, 2)), (999999, 1))

    def test_from_a_place_to_itself(self):
        for marks in [(), PLAIN, UP]:
            for place in [NOUGHT, HALF, (4, 1), (9, 4), (999, 7)]:
                self.check(marks, place, place, NOUGHT)

    def test_reach_by_nought(self):
        self.assertEqual(reach(PLAIN, (4, 1), NOUGHT), (4, 1))
        self.assertEqual(reach((), NOUGHT, NOUGHT), NOUGHT)

    def test_reach_just_to_a_mark_and_beyond(self):
        self.assertEqual(reach(PLAIN, NOUGHT, TWO), TWO)
        self.assertEqual(reach(PLAIN, NOUGHT, (8, 1)), (4, 1))
        self.assertEqual(reach(PLAIN, NOUGHT, (81, 10)), (21, 5))
        self.assertEqual(reach(UP, HALF, (8, 1)), (29, 6))

    def test_numbers_of_many_figures(self):
        big = (10 ** 399 + 7, 3)
        self.check(PLAIN, (4, 1), plus((4, 1), big), pair(fraction(big) / 2))

    def test_as_the_plain_sum(self):
        chance = random.Random(3)
        for _ in range(300):
            marks = some_marks(chance)
            kept = list(marks)
            one = pair(Fraction(chance.randrange(40), chance.randrange(1, 7)))
            other = plus(one, pair(Fraction(chance.randrange(90), chance.randrange(1, 7))))
            self.check(marks, one, other, plain_span(marks, one, other))
            length = pair(Fraction(chance.randrange(99), chance.randrange(1, 9)))
            far = reach(marks, one, length)
            self.assertFalse(less(far, one))
            self.assertEqual(span(marks, one, far), length)
            self.assertEqual(plain_span(marks, one, far), length)
            self.assertEqual(marks, kept)


if __name__ == "__main__":
    unittest.main()
