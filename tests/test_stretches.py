import random
import unittest

from making import HALF, NOUGHT, ONE, TWO, fraction, pair, some_gives, some_score, whole

from manyclocks.sounds import sounds
from manyclocks.stretches import stretch


def sound(begin, end, name="a", voice=0, pitches=(60,)):
    return (begin, end, name, voice, pitches)


class Stretches(unittest.TestCase):
    def cut(self, rows, one, other, told):
        before = list(rows)
        found = stretch(rows, one, other)
        self.assertIsInstance(found, list)
        self.assertEqual(found, told)
        self.assertEqual(rows, before)

    def test_nothing(self):
        self.cut([], NOUGHT, ONE, [])

    def test_between(self):
        self.cut([sound(TWO, whole(3))], ONE, whole(4), [sound(ONE, TWO)])
        self.cut([sound((5, 2), whole(3), "b", 3, (1, 2))], (1, 3), whole(3), [sound((13, 6), (8, 3), "b", 3, (1, 2))])

    def test_ahead_of_the_first_time(self):
        self.cut([sound(NOUGHT, whole(3))], ONE, whole(4), [sound(NOUGHT, TWO)])
        self.cut([sound(NOUGHT, ONE)], TWO, whole(4), [])

    def test_behind_the_later_one(self):
        self.cut([sound(TWO, whole(9))], ONE, whole(4), [sound(ONE, whole(3))])
        self.cut([sound(whole(5), whole(9))], ONE, whole(4), [])

    def test_over_the_whole(self):
        self.cut([sound(NOUGHT, whole(9))], ONE, (3, 2), [sound(NOUGHT, HALF)])

    def test_just_at_the_times(self):
        self.cut([sound(NOUGHT, ONE), sound(whole(4), whole(5))], ONE, whole(4), [])
        self.cut([sound(ONE, whole(4))], ONE, whole(4), [sound(NOUGHT, whole(3))])

    def test_without_an_end(self):
        self.cut([sound(TWO, None)], ONE, whole(4), [sound(ONE, whole(3))])
        self.cut([sound(NOUGHT, None)], ONE, whole(4), [sound(NOUGHT, whole(3))])
        self.cut([sound(whole(4), None), sound(whole(5), None)], ONE, whole(4), [])

    def test_sorted(self):
        rows = [sound(NOUGHT, whole(9), "c"), sound(NOUGHT, None, "b", 1), sound(HALF, TWO, "d"),
                sound(ONE, whole(9), "b", 0), sound(ONE, whole(9), "b", 0, (50,)), sound(ONE, (10, 3), "z")]
        self.cut(rows, ONE, whole(4), [
            sound(NOUGHT, ONE, "d"), sound(NOUGHT, (7, 3), "z"), sound(NOUGHT, whole(3), "b", 0, (50,)),
            sound(NOUGHT, whole(3), "b", 0), sound(NOUGHT, whole(3), "b", 1), sound(NOUGHT, whole(3), "c")])

    def test_each_told_is_kept(self):
        # Two that are alike once they are cut are two.
        self.cut([sound(NOUGHT, TWO), sound(HALF, TWO)], ONE, whole(4), [sound(NOUGHT, ONE)] * 2)

    def test_the_told_list_is_the_askers_own(self):
        rows = [sound(NOUGHT, ONE)]
        told = stretch(rows, NOUGHT, ONE)
        told.append("more")
        self.cut(rows, NOUGHT, ONE, [sound(NOUGHT, ONE)])

    def test_pieces_are_the_whole(self):
        """The stretches between rising times, moved back and joined where they were cut, are the whole."""
        for seed in range(40):
            chance = random.Random(seed)
            rows = sounds(some_score(chance), some_gives(chance))
            cuts = sorted({fraction(NOUGHT), fraction(whole(1000))} | {fraction(whole(
                chance.randrange(1, 60))) / 6 for _ in range(chance.randrange(6))})
            self.assertEqual(self.joined(rows, cuts), self.joined(rows, [cuts[0], cuts[-1]]))

    def joined(self, rows, cuts):
        """(name, voice, pitches, begin, end) of all that sounds, pieces that meet at a cut put together."""
        told = {}
        for one, other in zip(cuts, cuts[1:]):
            for begin, end, *rest in stretch(rows, pair(one), pair(other)):
                low, high = fraction(begin) + one, fraction(end) + one
                spans = told.setdefault(tuple(rest), [])
                if low == one and spans and spans[-1][1] == low and low not in self.begins(rows, rest):
                    spans[-1] = (spans[-1][0], high)
                else:
                    spans.append((low, high))
        return told

    def begins(self, rows, rest):
        return {fraction(row[0]) for row in rows if list(row[2:]) == list(rest)}


if __name__ == "__main__":
    unittest.main()
