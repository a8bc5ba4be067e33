import copy
import random
import unittest

from making import (
    HALF, NOUGHT, ONE, TWO, bar, call, clock, ended, filled, fraction, one_part, pace, part, repeat, rest, rich_score,
    score, sign, some_gives, some_score, tone, turn, use, wait, whole,
)

from manyclocks.drawing import drawn, together, wants
from manyclocks.errors import ClockError, TooLong, Unlike
from manyclocks.scores import checked
from manyclocks.sounds import sounds
from manyclocks.standing import why


def names_of(handed):
    """The names of the clocks, phrases and parts, each a text of all of them."""
    return [" ".join(row[0] for row in rows) for rows in handed]


class Drawn(unittest.TestCase):
    def draws(self, handed, names, told):
        """Told are the names that are left; what is left is as it was."""
        checked(handed)
        found = drawn(handed, names)
        checked(found)
        self.assertEqual(names_of(found), told)
        for sort in range(3):
            self.assertEqual(found[sort], tuple(row for row in handed[sort] if row in found[sort]))

    def handed(self):
        clocks = [clock("b", "c"), clock("c", "d", ONE, (ONE, pace(TWO))), clock("d"), clock("e", "d"), clock("f")]
        phrases = [("p", (use("q"),)), ("q", (bar(), use("s", 1, HALF))), ("r", (use("q"),)), ("s", (bar(),)),
                   ("t", ())]
        parts = [
            part("a", use("p"), on="b"), part("b", repeat(2, use("r")), on="e"), part("c", bar()),
            part("d", ended(2, (use("t"),), ((1,), (use("s"),)), ((2,), ())), on="d")]
        return score(*parts, clocks=clocks, phrases=phrases)

    def test_one_part(self):
        self.draws(self.handed(), ["a"], ["b c d", "p q s", "a"])
        self.draws(self.handed(), ["b"], ["d e", "q r s", "b"])
        self.draws(self.handed(), ["c"], ["", "", "c"])
        self.draws(self.handed(), ["d"], ["d", "s t", "d"])

    def test_some_in_any_order_and_twice(self):
        for names in [["a", "b"], ["b", "a"], ["a", "b", "a"], ["b", "b", "a", "a"]]:
            self.draws(self.handed(), names, ["b c d e", "p q r s", "a b"])

    def test_all(self):
        self.draws(self.handed(), ["d", "c", "b", "a"], ["b c d e", "p q r s t", "a b c d"])
        self.draws(rich_score(), ["flute"], ["beat main", "ph solo", "flute"])
        self.draws(rich_score(), ["drum"], ["", "", "drum"])

    def test_names_that_stand_in_more_than_one_sort(self):
        handed = score(part("a", use("b"), on="c"), part("b", use("a"), on="a"), part("c", use("c"), on="b"),
                       clocks=[clock("a"), clock("b"), clock("c")],
                       phrases=[("a", (bar(1),)), ("b", (bar(2),)), ("c", (bar(3),))])
        self.draws(handed, ["a"], ["c", "b", "a"])
        self.draws(handed, ["b", "c"], ["a b", "a c", "b c"])

    def test_waits_and_calls_draw_nothing(self):
        handed = score(part("a", filled(wait("b", "x"), tone())), part("b", filled(call("x"), rest())))
        self.draws(handed, ["a"], ["", "", "a"])

    def test_phrases_used_over_and_over_are_gone_into_once(self):
        # Gone into with each use, these would be 60 ** 11 phrases.
        letters = "abcdefghijkl"
        rows = [(name, (use(below),) * 60) for name, below in zip(letters, letters[1:])]
        handed = score(part("a", use("a")), phrases=[*rows, ("l", (bar(),))])
        self.draws(handed, ["a"], ["", " ".join(letters), "a"])

    def test_parts_whose_walks_are_too_long(self):
        self.draws(score(part("a", sign("s"), turn("s")), part("b", bar())), ["a"], ["", "", "a"])

    def test_nothing_is_changed(self):
        handed, names = self.handed(), ["b", "a", "b"]
        before = copy.deepcopy((handed, names))
        drawn(handed, names)
        self.assertEqual((handed, names), before)


class Together(unittest.TestCase):
    def test_of_one_and_of_one_twice(self):
        for handed in [one_part(bar()), rich_score()]:
            self.assertEqual(together([handed]), handed)
            self.assertEqual(together([handed, handed]), handed)

    def test_of_several_in_any_order(self):
        one = score(part("c", use("q"), on="k"), clocks=[clock("k"), clock("m")], phrases=[("q", ())])
        two = score(part("a"), part("d"), clocks=[clock("b", "k"), clock("k")], phrases=[("p", (bar(),)), ("r", ())])
        three = score(part("b", on="b"), clocks=[clock("b", "k"), clock("k")])
        whole_one = (
            (clock("b", "k"), clock("k"), clock("m")), (("p", (bar(),)), ("q", ()), ("r", ())),
            (part("a"), part("b", on="b"), part("c", use("q"), on="k"), part("d")))
        for handed in [[one, two, three], [three, two, one], [two, one, three, one]]:
            self.assertEqual(together(handed), whole_one)
            checked(together(handed))

    def test_unlike(self):
        base = score(part("a", use("p"), on="k"), clocks=[clock("k")], phrases=[("p", (bar(),))])
        others = [
            score(part("b"), clocks=[clock("k", None, ONE)]), score(part("b"), clocks=[clock("k", "l"), clock("l")]),
            score(part("b"), clocks=[clock("k", None, NOUGHT, (ONE, pace(ONE)))]),
            score(part("b"), phrases=[("p", ())]), score(part("b"), phrases=[("p", (bar(61),))]),
            score(part("a")), score(part("a", use("p"), on="k", begin=ONE), clocks=[clock("k")],
                                    phrases=[("p", (bar(),))]),
        ]
        for other in others:
            checked(other)
            for handed in [[base, other], [other, base], [base, base, other], [one_part(bar()), base, other][1:]]:
                with self.assertRaises(Unlike) as caught:
                    together(handed)
                self.assertIsInstance(caught.exception, ClockError)

    def test_unlike_by_a_tie_alone(self):
        with self.assertRaises(Unlike):
            together([one_part(filled(tone(60, ONE, True))), one_part(filled(tone(60, ONE, False)))])

    def test_unlike_sorts_may_share_a_name(self):
        one = score(part("a", bar()), clocks=[clock("b")], phrases=[("c", ())])
        two = score(part("b"), clocks=[clock("c")], phrases=[("a", (bar(),))])
        three = score(part("c", bar(), begin=ONE), clocks=[clock("a", None, TWO)], phrases=[("b", (bar(3),))])
        self.assertEqual(names_of(together([one, two, three])), ["a b c"] * 3)

    def test_parts_drawn_out_one_by_one(self):
        for seed in range(40):
            chance = random.Random(seed)
            handed = some_score(chance)
            names = [row[0] for row in handed[2]]
            pieces = [drawn(handed, [name]) for name in names]
            chance.shuffle(pieces)
            put = together(pieces)
            # But for clocks and phrases that no part needs it is the score.
            self.assertEqual(put, drawn(handed, names))
            self.assertEqual(put[2], handed[2])
            text = repr(put[2])
            for sort in range(2):
                self.assertTrue(set(put[sort]) <= set(handed[sort]))
            for row in set(handed[0]) - set(put[0]):
                self.assertNotIn(f"'{row[0]}', (", [f"'{there[1]}', (" for there in put[2] + put[0]])
            for name, things in set(handed[1]) - set(put[1]):
                self.assertNotIn(f"('use', '{name}'", text + repr(put[1]))

    def test_nothing_is_changed(self):
        handed = [rich_score(), one_part(bar())]
        before = copy.deepcopy(handed)
        together(handed)
        self.assertEqual(handed, before)


class Wants(unittest.TestCase):
    def told(self, handed, gives, names):
        checked(handed)
        told = wants(handed, gives, names)
        self.assertIsInstance(told, list)
        return told

    def test_gives_of_what_is_no_part_stay(self):
        handed = score(part("a", filled(wait("z", "x"), tone())), part("b", bar()))
        gives = [(ONE, "z", "x"), (ONE, "b", "x"), (ONE, "y", "x"), (ONE, "a", "x"), (TWO, "z", "y"), (TWO, "z", "x")]
        told = [(ONE, "y", "x"), (ONE, "z", "x"), (TWO, "z", "x"), (TWO, "z", "y")]
        for names in [["a"], ["b"], ["b", "a"], ["a", "a"]]:
            self.assertEqual(self.told(handed, gives, names), told)

    def test_calls_of_parts_that_are_not_drawn(self):
        handed = score(
            part("a", filled(wait("b", "x"), tone(), wait("c", "y"), tone())),
            part("b", filled(rest(), call("x"), rest(), call("y"), call("x"))),
            part("c", filled(call("y"), rest(), call("x"), call("y"))))
        xs = [(ONE, "b", "x"), (TWO, "b", "x")]
        ys = [(NOUGHT, "c", "y"), (ONE, "c", "y")]
        self.assertEqual(self.told(handed, [], ["a"]), [ys[0], xs[0], ys[1], xs[1]])
        self.assertEqual(self.told(handed, [], ["a", "b"]), ys)
        self.assertEqual(self.told(handed, [], ["c", "a", "a"]), xs)
        self.assertEqual(self.told(handed, [], ["b"]), [])
        self.assertEqual(self.told(handed, [], ["a", "b", "c"]), [])

    def test_waits_that_are_never_come_to_count(self):
        handed = score(part("a", filled(wait("z", "x"), rest(), wait("b", "x"))), part("b", filled(call("x"), rest())))
        self.assertEqual(self.told(handed, [], ["a"]), [(NOUGHT, "b", "x")])

    def test_calls_that_are_not_come_to_do_not(self):
        handed = score(part("a", filled(wait("b", "x"), rest())),
                       part("b", filled(call("x"), rest(), wait("z", "x"), call("x"))))
        self.assertEqual(self.told(handed, [], ["a"]), [(NOUGHT, "b", "x")])
        self.assertEqual(self.told(handed, [(TWO, "z", "x")], ["a"]), [(NOUGHT, "b", "x"), (TWO, "b", "x"),
                                                                      (TWO, "z", "x")])

    def test_in_repeats_and_phrases(self):
        handed = score(
            part("a", repeat(2, use("w"))), part("b", use("c"), repeat(2, filled(rest(), call("x")))),
            phrases=[("c", (filled(call("x"), rest()),)), ("w", (filled(wait("b", "x"), rest()),))])
        self.assertEqual(self.told(handed, [], ["a"]), [(whole(time), "b", "x") for time in [0, 2, 3]])

    def test_sorted_by_times_as_fractions(self):
        handed = score(part("a", filled(wait("b", "x"), wait("c", "x"), rest())),
                       part("b", filled(call("x"), rest()), begin=(10, 3)),
                       part("c", filled(call("x"), rest()), begin=(7, 2)))
        told = self.told(handed, [((10, 3), "a", "x"), ((17, 5), "z", "x")], ["a"])
        self.assertEqual(told, [((10, 3), "b", "x"), ((17, 5), "z", "x"), ((7, 2), "c", "x")])

    def test_the_drawn_score_sounds_as_in_the_score(self):
        many = 0
        for seed in range(150):
            chance = random.Random(seed)
            handed, gives = some_score(chance), some_gives(chance)
            names = [row[0] for row in handed[2]]
            names = chance.sample(names, chance.randrange(1, len(names) + 1))
            told = self.told(handed, gives, names)
            times = [(fraction(time), giver, word) for time, giver, word in told]
            self.assertEqual(times, sorted(times))
            inner = drawn(handed, names)
            checked(inner)
            kept = [row for row in sounds(handed, gives) if row[2] in names]
            self.assertEqual(sounds(inner, told), kept, seed)
            stuck = [name for name in why(handed, gives) if name in names]
            self.assertEqual(sorted(why(inner, told)), sorted(stuck), seed)
            many += len(kept)
        self.assertGreater(many, 1000)

    def test_all_walks_are_needed(self):
        with self.assertRaises(TooLong):
            wants(score(part("a", bar()), part("b", sign("s"), turn("s"))), [], ["a"])

    def test_nothing_is_changed_and_all_is_new(self):
        handed = score(part("a", filled(wait("b", "x"), tone())), part("b", filled(call("x"), rest())))
        gives, names = [(ONE, "z", "x"), (ONE, "y", "x")], ["a"]
        before = copy.deepcopy((handed, gives, names))
        told = wants(handed, gives, names)
        again = list(told)
        told.clear()
        self.assertEqual(wants(handed, gives, names), again)
        self.assertEqual((handed, gives, names), before)


if __name__ == "__main__":
    unittest.main()
