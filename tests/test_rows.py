import copy
import random
import unittest

from making import (
    HALF, NOUGHT, ONE, TWO, Stage, bar, clock, filled, fraction, one_part, pace, pair, part, repeat, rest, score, sign,
    some_gives, some_score, tone, turn, voiced, wait, walked_marks, whole,
)

from manyclocks.errors import TooLong
from manyclocks.rows import row
from manyclocks.scores import checked
from manyclocks.sounds import sounds


class Rows(unittest.TestCase):
    def told(self, handed, voice=0, gives=()):
        """The row of "a"; whole numbers as such, pitches as they are."""
        checked(handed)
        told = row(handed, list(gives), "a", voice)
        self.assertIsInstance(told, list)
        for begin, end, pitches in told:
            self.assertEqual((begin[1], 1 if end is None else end[1]), (1, 1))
        return [(begin[0], end if end is None else end[0], pitches) for begin, end, pitches in told]

    def test_without_gaps(self):
        self.assertEqual(self.told(one_part(bar(60), bar((60, 64), TWO), bar((60, 64)))), [
            (0, 1, (60,)), (1, 3, (60, 64)), (3, 4, (60, 64))])

    def test_silence_ahead_of_its_begin(self):
        self.assertEqual(self.told(score(part("a", bar(), begin=TWO))), [(0, 2, ()), (2, 3, (60,))])
        slow = clock("c", None, ONE, (NOUGHT, pace(whole(3))))
        self.assertEqual(self.told(score(part("a", bar(), on="c", begin=ONE), clocks=[slow])), [
            (0, 4, ()), (4, 7, (60,))])

    def test_silences_are_joined(self):
        handed = score(part("a", filled(rest(), rest()), filled(rest(), tone(), rest()), filled(rest()), begin=ONE))
        self.assertEqual(self.told(handed), [(0, 4, ()), (4, 5, (60,)), (5, 7, ())])
        self.assertEqual(self.told(one_part(repeat(3, filled(rest())))), [(0, 3, ())])

    def test_tied_tones_are_one(self):
        self.assertEqual(self.told(one_part(filled(tone(60, ONE, True), tone(), tone()))), [
            (0, 2, (60,)), (2, 3, (60,))])

    def test_while_it_is_held(self):
        gives = [(whole(5), "z", "x")]
        for held, told in [(False, [(0, 1, (60,)), (1, 5, ())]), (True, [(0, 5, (60,))])]:
            first = tone(60, ONE, False, held)
            self.assertEqual(self.told(one_part(filled(first, wait("z", "x"), tone(61))), 0, gives),
                             told + [(5, 6, (61,))])
            # At the end, up to the walk's late end.
            self.assertEqual(self.told(one_part(filled(first, wait("z", "x"))), 0, gives), told)
        self.assertEqual(self.told(one_part(filled(wait("z", "x"), rest(), tone())), 0, gives), [
            (0, 6, ()), (6, 7, (60,))])

    def test_voices_that_bars_lack(self):
        handed = one_part(bar(), voiced((tone(),), (rest(),), (tone(70),)), bar(), voiced((tone(),), (tone(71),)))
        self.assertEqual(self.told(handed, 0), [(at, at + 1, (60,)) for at in range(4)])
        self.assertEqual(self.told(handed, 1), [(0, 3, ()), (3, 4, (71,))])
        self.assertEqual(self.told(handed, 2), [(0, 1, ()), (1, 2, (70,)), (2, 4, ())])
        self.assertEqual(self.told(handed, 3), [(0, 4, ())])

    def test_no_bars(self):
        for voice in range(4):
            self.assertEqual(self.told(one_part(), voice), [])
            self.assertEqual(self.told(score(part("a", begin=TWO)), voice), [(0, 2, ())])

    def test_standing_for_ever(self):
        self.assertEqual(self.told(one_part(filled(wait("z", "x"), tone()))), [(0, None, ())])
        self.assertEqual(self.told(one_part(filled(tone(), wait("z", "x"), tone()))), [(0, 1, (60,)), (1, None, ())])
        self.assertEqual(self.told(one_part(filled(tone(60, ONE, False, True), wait("z", "x")))), [(0, None, (60,))])
        two = one_part(voiced((tone(60, TWO),), (rest(), wait("z", "x"), rest())), bar())
        self.assertEqual(self.told(two, 0), [(0, None, (60,))])
        self.assertEqual(self.told(two, 1), [(0, None, ())])
        self.assertEqual(self.told(two, 3), [(0, None, ())])

    def test_all_walks_are_needed(self):
        with self.assertRaises(TooLong):
            row(score(part("a", bar()), part("b", sign("s"), turn("s"))), [], "a", 0)

    def test_nothing_is_changed_and_all_is_new(self):
        handed, gives = one_part(filled(tone(), wait("z", "x"), tone(60, HALF))), [(TWO, "z", "x")]
        before = copy.deepcopy((handed, gives))
        told = row(handed, gives, "a", 0)
        again = list(told)
        told.clear()
        self.assertEqual(row(handed, gives, "a", 0), again)
        self.assertEqual((handed, gives), before)

    def test_some_scores(self):
        for seed in range(40):
            chance = random.Random(seed)
            handed, gives = some_score(chance), some_gives(chance)
            heard = sounds(handed, gives)
            for name in [one[0] for one in handed[2]]:
                length = pair(walked_marks(handed, name)[1])
                stop = Stage(handed, gives, {name: [length]}).probed(name, "late", length)
                for voice in range(4):
                    self.check(row(handed, gives, name, voice), stop, [
                        (*one[:2], one[4]) for one in heard if one[2:4] == (name, voice)])

    def check(self, told, stop, heard):
        """Without gaps from nought to stop, the sounds in it just those heard, no silence behind another."""
        self.assertEqual([one for one in told if one[2]], heard)
        self.assertEqual([one[1] for one in told[:-1]], [one[0] for one in told[1:]])
        if told:
            self.assertEqual((told[0][0], told[-1][1]), (NOUGHT, stop))
        else:
            self.assertEqual(stop, NOUGHT)
        self.assertTrue(all(one[1] is None or fraction(one[0]) < fraction(one[1]) for one in told))
        self.assertFalse(any(one[2] == other[2] == () for one, other in zip(told, told[1:])))


if __name__ == "__main__":
    unittest.main()
