import copy
import random
import unittest

from making import (
    HALF, NOUGHT, ONE, TWO, bar, clock, filled, meet, one_part, pace, part, plain_parting, repeat, rest, score, sign,
    some_gives, some_score, turn, use, voiced, wait, whole,
)

from manyclocks.errors import TooLong
from manyclocks.meetings import parting
from manyclocks.scores import checked


class Meetings(unittest.TestCase):
    def told(self, handed, gives=()):
        checked(handed)
        return parting(handed, list(gives))

    def test_none(self):
        self.assertIsNone(self.told(one_part()))
        self.assertIsNone(self.told(score(part("a", bar()), part("b", bar()))))

    def test_all_meet(self):
        self.assertIsNone(self.told(score(
            part("a", filled(rest(TWO), meet("x"))), part("b", filled(pace(TWO), rest(), meet("x"))),
            part("c", filled(meet("x"), rest()), begin=TWO))))

    def test_alone(self):
        self.assertIsNone(self.told(one_part(filled(meet("x"), rest(), meet("x")))))
        self.assertIsNone(self.told(score(part("a", filled(wait("z", "x"), meet("x"), rest())), part("b", bar()))))

    def test_they_part(self):
        handed = score(part("a", bar(), filled(rest(), meet("x"))), part("b", filled(rest(), meet("x"))))
        self.assertEqual(self.told(handed), ("x", 1, ("b", 0, ONE), ("a", 1, TWO)))

    def test_none_meet(self):
        handed = score(*[part(name, filled(meet("x"), rest()), begin=whole(begin))
                         for name, begin in zip("abcd", [3, 1, 2, 1])])
        self.assertEqual(self.told(handed), ("x", 1, ("b", 0, ONE), ("c", 0, TWO)))

    def test_the_first_by_time_and_name(self):
        handed = score(*[part(name, filled(meet("x"), rest()), begin=whole(begin))
                         for name, begin in zip("abcdef", [4, 4, 2, 2, 3, 3])])
        self.assertEqual(self.told(handed), ("x", 1, ("c", 0, TWO), ("e", 0, whole(3))))

    def test_times_as_fractions(self):
        handed = score(part("a", filled(meet("x"), rest()), begin=(10, 3)), part("b", filled(meet("x"), rest()),
                       begin=(9, 2)), part("c", filled(meet("x"), rest()), begin=(7, 2)))
        self.assertEqual(self.told(handed), ("x", 1, ("a", 0, (10, 3)), ("c", 0, (7, 2))))

    def test_a_part_that_never_comes_there(self):
        held = filled(rest(), wait("z", "x"), meet("x"), rest())
        handed = score(part("a", held), part("b", filled(rest(), meet("x"))), part("c", filled(rest(), meet("x"))))
        self.assertEqual(self.told(handed), ("x", 1, ("b", 0, ONE), ("a", 0, None)))
        # Once it comes there, it is later.
        self.assertEqual(self.told(handed, [(TWO, "z", "x")]), ("x", 1, ("b", 0, ONE), ("a", 0, TWO)))
        self.assertIsNone(self.told(handed, [(ONE, "z", "x")]))

    def test_an_other_time_comes_ahead_of_none(self):
        held = filled(wait("z", "x"), meet("x"), rest())
        handed = score(part("a", held), part("b", filled(rest(), meet("x"))), part("c", filled(rest(TWO), meet("x"))))
        self.assertEqual(self.told(handed), ("x", 1, ("b", 0, ONE), ("c", 0, TWO)))

    def test_nobody_ever_comes_there(self):
        held = filled(wait("z", "x"), meet("x"), rest())
        self.assertIsNone(self.told(score(part("a", held), part("b", held))))

    def test_the_marks_ahead_at_that_place_hold_it(self):
        gives = [(TWO, "z", "x")]
        ahead, behind = filled(meet("x"), wait("z", "x"), rest()), filled(wait("z", "x"), meet("x"), rest())
        handed = score(part("a", ahead), part("b", behind))
        self.assertEqual(self.told(handed, gives), ("x", 1, ("a", 0, NOUGHT), ("b", 0, TWO)))
        voices = voiced((wait("z", "x"), rest()), (meet("x"), rest()))
        self.assertIsNone(self.told(score(part("a", behind), part("b", voices)), gives))

    def test_fewer_meetings(self):
        handed = score(part("a", repeat(3, filled(rest(), meet("x")))), part("b", repeat(2, filled(rest(), meet("x")))),
                       part("c", filled(rest(), meet("x"))))
        self.assertIsNone(self.told(handed))

    def test_the_kth_in_a_repeat(self):
        handed = score(part("a", repeat(3, filled(rest(), meet("x")))),
                       part("b", repeat(2, filled(rest(), meet("x"))), bar(), filled(rest(), meet("x"))))
        self.assertEqual(self.told(handed), ("x", 3, ("a", 2, whole(3)), ("b", 3, whole(4))))

    def test_the_number_of_the_bar_in_the_walk(self):
        handed = score(part("a", repeat(2, repeat(2, bar(), use("p")))), part("b", filled(rest(whole(8)))),
                       part("c", filled(rest(TWO), meet("m"), rest(TWO), meet("m"), rest(whole(3)), meet("m"))),
                       phrases=(("p", (filled(rest(), meet("m")),)),))
        # The third time a is in its bar number 5; a meeting at a bar's end is in that bar.
        self.assertEqual(self.told(handed), ("m", 3, ("a", 5, whole(6)), ("c", 0, whole(7))))

    def test_two_at_one_time_by_x_and_then_by_k(self):
        one = part("a", filled(meet("y"), meet("x"), meet("x"), rest()))
        other = part("b", filled(meet("y"), meet("x"), meet("x"), rest()), begin=ONE)
        self.assertEqual(self.told(score(one, other)), ("x", 1, ("a", 0, NOUGHT), ("b", 0, ONE)))
        first = part("c", filled(rest(), meet("x")))
        second = part("b", filled(meet("y"), rest(), meet("x"), rest(), meet("x")))
        third = part("a", filled(meet("y"), rest(), meet("x"), meet("x"), rest()))
        self.assertEqual(self.told(score(third, second, first)), ("x", 2, ("a", 0, ONE), ("b", 0, TWO)))
        # Ten is behind nine.
        many = part("a", repeat(9, filled(rest(), meet("x"))), filled(rest(), meet("x"), meet("x")))
        fewer = part("b", repeat(9, filled(rest(), meet("x"))), filled(rest(TWO), meet("x"), meet("x")))
        self.assertEqual(self.told(score(many, fewer)), ("x", 10, ("a", 9, whole(10)), ("b", 9, whole(11))))

    def test_the_least_time_of_any_part(self):
        # x parts at 5 and 0, y at 1 and 2: x has the least time.
        one = part("a", filled(meet("y"), rest(whole(4)), meet("x")), begin=ONE)
        other = part("b", filled(meet("x"), rest(TWO), meet("y")))
        self.assertEqual(self.told(score(one, other)), ("x", 1, ("b", 0, NOUGHT), ("a", 0, whole(5))))

    def test_on_clocks(self):
        slow = clock("c", None, NOUGHT, (NOUGHT, pace(TWO)))
        one = part("a", filled(rest(), meet("x"), rest(), meet("x")), on="c")
        other = part("b", filled(rest(TWO), meet("x"), rest((5, 2)), meet("x")))
        self.assertEqual(self.told(score(one, other, clocks=[slow])), ("x", 2, ("a", 0, whole(4)), ("b", 0, (9, 2))))

    def test_all_walks_are_needed(self):
        with self.assertRaises(TooLong):
            parting(score(part("a", bar()), part("b", sign("s"), turn("s"))), [])

    def test_nothing_is_changed(self):
        handed, gives = score(part("a", filled(wait("z", "x"), meet("x"), rest())), part("b", filled(
            rest(HALF), meet("x")))), [(TWO, "z", "x")]
        before = copy.deepcopy((handed, gives))
        told_first = parting(handed, gives)
        self.assertEqual(parting(handed, gives), told_first)
        self.assertEqual((handed, gives), before)

    def test_against_the_plain_stage(self):
        parted = 0
        for seed in range(200):
            chance = random.Random(seed)
            handed, gives = some_score(chance), some_gives(chance)
            found = parting(handed, gives)
            self.assertEqual(found, plain_parting(handed, gives), seed)
            parted += found is not None
        self.assertGreater(parted, 30)
        self.assertLess(parted, 170)


if __name__ == "__main__":
    unittest.main()
