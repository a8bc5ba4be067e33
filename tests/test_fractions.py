import unittest
from fractions import Fraction

from making import fraction, odd_things, pair, plain_things

from manyclocks.fractions import (
    by_times, earlier, is_fraction, later, less, minus, over, part, plus, ranks_of, times,
)

BIG = 7 ** 400
SOME = [pair(Fraction(top, bottom)) for top in range(-7, 8) for bottom in range(1, 7)]
SOME += [pair(Fraction(BIG, 3 ** 300)), pair(Fraction(-BIG - 1, 11)), pair(Fraction(1, BIG))]


class Parts(unittest.TestCase):
    def test_lowest_terms_and_signs(self):
        for top in range(-12, 13):
            for bottom in [*range(-12, 0), *range(1, 13)]:
                self.assertEqual(part(top, bottom), pair(Fraction(top, bottom)))

    def test_some_by_hand(self):
        self.assertEqual(part(6, 4), (3, 2))
        self.assertEqual(part(6, -4), (-3, 2))
        self.assertEqual(part(-6, -4), (3, 2))
        self.assertEqual(part(-6, 4), (-3, 2))
        self.assertEqual(part(0, -5), (0, 1))
        self.assertEqual(part(0, 5), (0, 1))

    def test_many_figures(self):
        self.assertEqual(part(BIG * 10, BIG * 4), (5, 2))
        self.assertEqual(part(10 ** 399 + 1, -(10 ** 399 + 1)), (-1, 1))


class Sums(unittest.TestCase):
    def check(self, told, worth):
        self.assertEqual(told, pair(worth))
        self.assertIs(type(told), tuple)
        self.assertIs(type(told[0]), int)
        self.assertIs(type(told[1]), int)

    def test_as_fractions_are(self):
        for one in SOME:
            for other in SOME:
                self.check(plus(one, other), fraction(one) + fraction(other))
                self.check(minus(one, other), fraction(one) - fraction(other))
                self.check(times(one, other), fraction(one) * fraction(other))
                if other[0] != 0:
                    self.check(over(one, other), fraction(one) / fraction(other))

    def test_minus_undoes_plus_and_over_undoes_times(self):
        for one in SOME:
            for other in SOME:
                self.assertEqual(minus(plus(one, other), other), one)
                if other[0] != 0:
                    self.assertEqual(over(times(one, other), other), one)

    def test_some_by_hand(self):
        self.assertEqual(plus((1, 2), (1, 3)), (5, 6))
        self.assertEqual(plus((1, 2), (1, 2)), (1, 1))
        self.assertEqual(minus((1, 2), (1, 2)), (0, 1))
        self.assertEqual(minus((1, 3), (1, 2)), (-1, 6))
        self.assertEqual(times((2, 3), (3, 2)), (1, 1))
        self.assertEqual(times((0, 1), (-5, 7)), (0, 1))
        self.assertEqual(over((1, 2), (-3, 4)), (-2, 3))
        self.assertEqual(over((0, 1), (-3, 4)), (0, 1))


class Less(unittest.TestCase):
    def test_as_fractions_are(self):
        for one in SOME:
            for other in SOME:
                self.assertIs(less(one, other), fraction(one) < fraction(other))

    def test_close_and_alike(self):
        self.assertIs(less((1, 3), (333334, 1000000)), True)
        self.assertIs(less((333334, 1000000), (1, 3)), False)
        self.assertIs(less((-1, 2), (-1, 3)), True)
        self.assertIs(less((-1, 3), (-1, 2)), False)
        self.assertIs(less((-1, 3), (1, 3)), True)
        self.assertIs(less((1, 3), (1, 3)), False)
        self.assertIs(less((BIG, BIG + 1), (BIG + 1, BIG + 2)), True)


class Orders(unittest.TestCase):
    def test_earlier_and_later(self):
        self.assertEqual([earlier((1, 3), (1, 2)), earlier((1, 2), (1, 3))], [(1, 3), (1, 3)])
        self.assertEqual([later((1, 3), (1, 2)), later((1, 2), (1, 3))], [(1, 2), (1, 2)])

    def test_ranks_of_fractions(self):
        worths = {Fraction(top, bottom) for top in range(-30, 61) for bottom in range(1, 25)}
        worths |= {fraction(one) for one in SOME} | {Fraction(BIG, BIG - 1), Fraction(BIG + 1, BIG)}
        for some in [worths, {Fraction(1, 3), Fraction(1, 2)}, {Fraction(1, 10), Fraction(1, 9)}, {Fraction(7)}]:
            ranks = ranks_of([pair(worth) for worth in some] * 2)
            told = [ranks[pair(worth)] for worth in sorted(some)]
            for low, high in zip(told, [*told[1:], ranks[None]]):
                self.assertLess(low, high)

    def test_no_times_at_all(self):
        self.assertEqual(list(ranks_of([])), [None])
        self.assertEqual(list(ranks_of([None, None])), [None])
        self.assertEqual(by_times([], 2), [])

    def test_rows_by_their_times(self):
        rows = [(None, "b"), ((1, 2), "c"), ((0, 1), "d"), (None, "a"), ((1, 3), "e"), ((BIG, 1), "f"), ((1, 2), "b")]
        before = list(rows)
        self.assertEqual([row[1] for row in by_times(rows, 1)], list("debcfab"))
        self.assertEqual(rows, before)

    def test_rows_by_several_times(self):
        rows = [((1, 2), None, "a"), ((1, 2), (2, 1), "b"), ((1, 3), None, "c"), ((1, 2), (10, 1), "d"),
                ((1, 2), (2, 1), "a")]
        self.assertEqual([row[2] for row in by_times(rows, 2)], list("cabda"))


class IsFraction(unittest.TestCase):
    def test_right_ones(self):
        for thing in [(0, 1), (1, 1), (-1, 1), (3, 2), (-3, 2), (10 ** 50, 3), (1, 10 ** 50), *SOME]:
            self.assertIs(is_fraction(thing), True, thing)

    def test_wrong_ones(self):
        wrong = [
            (True, 1), (1, True), (False, 1), (2, True), (2, 4), (0, 2), (-2, 4), (1, 0), (0, 0), (1, -1), (3, -2),
            (0, -1), [1, 2], (1,), (1, 2, 3), (), "12", "1/2", ("1", "2"), ("1", 2), (1, "2"), (1, None),
            (None, 1), ((1, 2), (1, 2)), 1, None, b"ab",
        ]
        for thing in wrong:
            self.assertIs(is_fraction(thing), False, thing)

    def test_of_anything(self):
        for thing in odd_things():
            self.assertIs(is_fraction(thing), False)
            self.assertIs(is_fraction((thing, 1)), False)
            self.assertIs(is_fraction((1, thing)), False)
            self.assertIs(is_fraction((thing, thing)), False)
        for thing in plain_things():
            self.assertIs(is_fraction(thing), thing == (1, 2), thing)


if __name__ == "__main__":
    unittest.main()
