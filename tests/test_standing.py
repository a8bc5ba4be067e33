import copy
import random
import unittest

from making import (
    NOUGHT, ONE, TWO, bar, call, filled, one_part, part, repeat, rest, score, sign, some_gives, some_score, turn, use,
    wait, walked_marks, whole,
)

from manyclocks.errors import TooLong
from manyclocks.scores import checked
from manyclocks.standing import why
from manyclocks.times import waits


def waiter(name, *awaited):
    """A part that waits for these, then gives its call x."""
    return part(name, filled(*[wait(*row) for row in awaited], rest(), call("x")))


class Standing(unittest.TestCase):
    def test_nobody(self):
        self.assertEqual(why(score(part("a")), []), {})
        self.assertEqual(why(score(part("a", bar()), waiter("b", ("c", "x")), waiter("c")), []), {})

    def test_rings(self):
        self.assertEqual(why(score(waiter("a", ("a", "x"))), []), {"a": ("ring", ("a",))})
        self.assertEqual(why(score(waiter("a", ("b", "x")), waiter("b", ("a", "x"))), []), {
            "a": ("ring", ("a", "b")), "b": ("ring", ("b", "a"))})
        names = "abcdefghijkl"
        many = score(*[waiter(name, (names[number - 1], "x")) for number, name in enumerate(names)])
        told = why(many, [])
        self.assertEqual(list(told), list(names))
        self.assertEqual(told["c"], ("ring", ("c", "b", "a", "l", "k", "j", "i", "h", "g", "f", "e", "d")))

    def test_a_way_into_a_ring(self):
        handed = score(waiter("a", ("b", "x")), waiter("b", ("c", "x")), waiter("c", ("d", "x")),
                       waiter("d", ("c", "x")), waiter("e", ("e", "x")), waiter("f", ("e", "x")))
        self.assertEqual(why(handed, []), {
            "a": ("ring", ("a", "b", "c", "d")), "b": ("ring", ("b", "c", "d")), "c": ("ring", ("c", "d")),
            "d": ("ring", ("d", "c")), "e": ("ring", ("e",)), "f": ("ring", ("f", "e"))})

    def test_calls_that_a_walk_lacks(self):
        handed = score(waiter("a", ("b", "y")), waiter("b"), waiter("c", ("a", "x")), waiter("d", ("d", "y")))
        self.assertEqual(why(handed, []), {
            "a": ("lacks", ("a",)), "c": ("lacks", ("c", "a")), "d": ("lacks", ("d",))})

    def test_as_many_calls_as_a_walk_has(self):
        # b has two calls; the third wait lacks one.
        caller = part("b", repeat(2, filled(rest(), call("x"))))
        handed = score(part("a", repeat(3, filled(wait("b", "x"), rest()))), caller)
        self.assertEqual(why(handed, []), {"a": ("lacks", ("a",))})
        enough = score(part("a", repeat(2, filled(wait("b", "x"), rest()))), caller)
        self.assertEqual(why(enough, []), {})
        # a waits for b's second call, ahead of which b waits for a: that one the walk has.
        held = part("b", filled(call("x"), rest(), wait("a", "x"), call("x")))
        ring = score(part("a", filled(wait("b", "x"), wait("b", "x"), rest(), call("x"))), held)
        self.assertEqual(why(ring, []), {"a": ("ring", ("a", "b")), "b": ("ring", ("b", "a"))})

    def test_gives_that_lack(self):
        handed = score(waiter("a", ("z", "x"), ("z", "x")), waiter("b", ("a", "x")), waiter("c", ("z", "x")))
        self.assertEqual(why(handed, [(ONE, "z", "x")]), {"a": ("lacks", ("a",)), "b": ("lacks", ("b", "a"))})
        self.assertEqual(why(handed, [(ONE, "z", "x")] * 2), {})
        self.assertEqual(why(handed, []), {
            "a": ("lacks", ("a",)), "b": ("lacks", ("b", "a")), "c": ("lacks", ("c",))})

    def test_gives_of_parts_are_none(self):
        handed = score(waiter("a", ("b", "y")), waiter("b"))
        self.assertEqual(why(handed, [(NOUGHT, "b", "y")]), {"a": ("lacks", ("a",))})

    def test_the_first_wait_that_holds_tells(self):
        handed = score(waiter("a", ("b", "x"), ("a", "x")), waiter("b", ("z", "x")))
        self.assertEqual(why(handed, []), {"a": ("lacks", ("a", "b")), "b": ("lacks", ("b",))})
        self.assertEqual(why(handed, [(TWO, "z", "x")]), {"a": ("ring", ("a",))})

    def test_in_repeats_and_phrases(self):
        phrases = (("hold", (filled(wait("b", "x"), rest()),)),)
        handed = score(part("a", repeat(2, use("hold"))), part("b", filled(rest(), call("x"))), phrases=phrases)
        self.assertEqual(why(handed, []), {"a": ("lacks", ("a",))})

    def test_all_walks_are_needed(self):
        with self.assertRaises(TooLong):
            why(score(part("a", bar()), part("b", sign("s"), turn("s"))), [])

    def test_nothing_is_changed_and_all_is_new(self):
        handed = one_part(filled(wait("z", "x"), rest()))
        gives = [(whole(2), "y", "x")]
        before = copy.deepcopy((handed, gives))
        told = why(handed, gives)
        told["b"] = told.pop("a")
        self.assertEqual(why(handed, gives), {"a": ("lacks", ("a",))})
        self.assertEqual((handed, gives), before)

    def test_some_scores(self):
        words = {"ring": 0, "lacks": 0}
        for seed in range(150):
            chance = random.Random(seed)
            handed, gives = some_score(chance), some_gives(chance)
            checked(handed)
            rows = waits(handed, gives)
            told = why(handed, gives)
            self.assertEqual(set(told), {name for name in rows if rows[name] and rows[name][-1][1] is None})
            for name, (word, names) in told.items():
                words[word] += 1
                self.assertEqual(names[0], name)
                self.assertEqual(len(names), len(set(names)))
                wanted = [self.wanted(handed, rows, one) for one in names]
                for (giver, have), other in zip(wanted, names[1:]):
                    self.assertEqual((giver, have), (other, True))
                self.assertEqual(wanted[-1][1], word == "ring")
                if word == "ring":
                    self.assertIn(wanted[-1][0], names)
        self.assertTrue(all(many > 20 for many in words.values()), words)

    def wanted(self, handed, rows, name):
        """Of whom the part waits for a call, and whether a walk has it."""
        marks = [mark for place, mark, number in walked_marks(handed, name)[0] if mark[0] == "wait"]
        held = marks[:len(rows[name])]
        giver, word = held[-1][1:]
        if giver not in rows:
            return giver, False
        calls = [mark for place, mark, number in walked_marks(handed, giver)[0] if mark == ("call", word)]
        return giver, len(calls) >= held.count(held[-1])


if __name__ == "__main__":
    unittest.main()
