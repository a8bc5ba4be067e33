import copy
import random
import unittest

from making import (
    HALF, NOUGHT, ONE, TWO, bar, call, clock, filled, group, lean, meet, one_part, pace, part, plain_sounds, repeat,
    rest, score, sign, some_gives, some_score, tone, turn, use, voiced, wait, whole,
)

from manyclocks.errors import TooLong
from manyclocks.scores import checked
from manyclocks.sounds import sounds


def tied(pitch=60, length=ONE, held=False):
    return tone(pitch, length, True, held)


class Sounds(unittest.TestCase):
    def told(self, handed, gives=()):
        checked(handed)
        told = sounds(handed, list(gives))
        self.assertIsInstance(told, list)
        return told

    def of_a(self, *things, phrases=(), gives=()):
        """(begin, end, pitches) of the part "a" alone, which has one voice."""
        told = self.told(one_part(*things, phrases=phrases), gives)
        self.assertTrue(all(row[2:4] == ("a", 0) for row in told))
        return [(row[0], row[1], row[4]) for row in told]

    def spans(self, *things, **more):
        """(begin, end) of whole numbers."""
        rows = self.of_a(*things, **more)
        self.assertTrue(all(row[0][1] == 1 and (row[1] is None or row[1][1] == 1) for row in rows), rows)
        return [(row[0][0], None if row[1] is None else row[1][0]) for row in rows]


class Plain(Sounds):
    def test_none(self):
        self.assertEqual(self.told(one_part()), [])
        self.assertEqual(self.told(one_part(filled(rest(), meet("x")))), [])

    def test_one_voice(self):
        self.assertEqual(self.of_a(filled(tone(60), rest(HALF), tone((60, 64), HALF)), bar(67)), [
            (NOUGHT, ONE, (60,)), ((3, 2), TWO, (60, 64)), (TWO, whole(3), (67,))])

    def test_four_voices(self):
        four = voiced((tone(60, TWO),), (tone(61), tone(62)), (rest(TWO),), (rest(HALF), tone(64, (3, 2))))
        self.assertEqual(self.told(one_part(four)), [
            (NOUGHT, ONE, "a", 1, (61,)), (NOUGHT, TWO, "a", 0, (60,)), (HALF, TWO, "a", 3, (64,)),
            (ONE, TWO, "a", 1, (62,))])

    def test_groups(self):
        inner = group(3, 2, tone(60), tone(62), group(2, 1, tone(64), rest(), tone(65), rest()))
        # The inner group's lengths are halved, and all go by two thirds.
        self.assertEqual(self.of_a(filled(inner, tone(60, (1, 3)))), [
            (NOUGHT, (2, 3), (60,)), ((2, 3), (4, 3), (62,)), ((4, 3), (5, 3), (64,)), (TWO, (7, 3), (65,)),
            ((8, 3), whole(3), (60,))])

    def test_paces_and_leans(self):
        self.assertEqual(self.spans(filled(tone(), pace(TWO), tone()), filled(lean(ONE, whole(3), 2), tone(), tone()),
                                    bar()), [(0, 1), (1, 3), (3, 4), (4, 6), (6, 9)])

    def test_clocks(self):
        slow = clock("c", None, ONE, (NOUGHT, pace(TWO)))
        handed = score(part("a", bar(), filled(pace(HALF), tone()), on="c", begin=ONE), part("b", bar(), begin=TWO),
                       clocks=[slow])
        self.assertEqual(self.told(handed), [
            (TWO, whole(3), "b", 0, (60,)), (whole(3), whole(5), "a", 0, (60,)), (whole(5), whole(6), "a", 0, (60,))])

    def test_phrases(self):
        phrases = {"p": (filled(tone((60, 64)), rest()), use("q", 1, TWO)), "q": (bar(40),)}
        self.assertEqual(self.of_a(use("p", -3, HALF), phrases=phrases), [
            (NOUGHT, HALF, (57, 61)), (ONE, TWO, (38,))])

    def test_repeats_and_turns(self):
        self.assertEqual(self.spans(repeat(2, bar()), sign("s"), bar(size=TWO), turn("s", None)), [
            (0, 1), (1, 2), (2, 4), (4, 6)])

    def test_sorted(self):
        handed = score(
            part("a", voiced((tone(60), tone(60, TWO)), (tone(62, whole(3)),)), filled(wait("z", "x"), rest())),
            part("b", voiced((tone(59), wait("b", "x"), tone(60)), (tone(58, TWO),), (tone(57, TWO),),
                             (tone((57, 60), ONE), tone(57, ONE, False, True)))),
            part("c", voiced((tone(50, TWO),), (tone(50, TWO),), (tone(50),) * 2)),
        )
        self.assertEqual(self.told(handed), [
            (NOUGHT, ONE, "a", 0, (60,)), (NOUGHT, ONE, "b", 0, (59,)), (NOUGHT, ONE, "b", 3, (57, 60)),
            (NOUGHT, ONE, "c", 2, (50,)), (NOUGHT, TWO, "c", 0, (50,)), (NOUGHT, TWO, "c", 1, (50,)),
            (NOUGHT, whole(3), "a", 1, (62,)), (NOUGHT, None, "b", 1, (58,)), (NOUGHT, None, "b", 2, (57,)),
            (ONE, TWO, "c", 2, (50,)), (ONE, whole(3), "a", 0, (60,))])

    def test_sorted_as_fractions(self):
        lengths = [(3, 7), (1, 3), (22, 7), (2, 9), (10, 1), (99, 100)]
        names = "abcdef"
        parts = [part(name, bar(60, length)) for name, length in zip(names, lengths)]
        self.assertEqual([row[2] for row in self.told(score(*parts))], list("dbafce"))
        late = [part(name, bar(), begin=length) for name, length in zip(names, lengths)]
        self.assertEqual([row[2] for row in self.told(score(*late))], list("dbafce"))


class Ties(Sounds):
    def test_same_pitches(self):
        self.assertEqual(self.spans(filled(tied(), tone())), [(0, 2)])
        self.assertEqual(self.spans(filled(tied((60, 64)), tone((60, 64)), tone((60, 64)))), [(0, 2), (2, 3)])
        # Without a tie they are two, alike as they are.
        self.assertEqual(self.spans(filled(tone(), tone())), [(0, 1), (1, 2)])

    def test_other_pitches_and_rests(self):
        for other in [tone(61), tone((60, 61)), tone(72)]:
            self.assertEqual(self.spans(filled(tied(), other)), [(0, 1), (1, 2)])
        self.assertEqual(self.spans(filled(tied(), rest(), tone())), [(0, 1), (2, 3)])
        # Behind another tone nothing is tied any more.
        self.assertEqual(self.spans(filled(tied(), tone(61), tone())), [(0, 1), (1, 2), (2, 3)])

    def test_chains(self):
        self.assertEqual(self.spans(filled(tied(), tied(), tied(), tone(), tone())), [(0, 4), (4, 5)])
        self.assertEqual(self.spans(filled(tied(), tied(61), tied(61), tied(60), rest())), [(0, 1), (1, 3), (3, 4)])

    def test_over_marks_and_in_groups(self):
        self.assertEqual(self.spans(filled(tied(), call("x"), pace(TWO), meet("m"), tone())), [(0, 3)])
        self.assertEqual(self.spans(filled(tied(), group(2, 2, tied(), meet("m")), tone())), [(0, 3)])

    def test_over_a_bars_end(self):
        self.assertEqual(self.spans(filled(tied()), filled(call("x"), tone(), tone())), [(0, 2), (2, 3)])
        self.assertEqual(self.spans(filled(tied()), filled(rest(), tone())), [(0, 1), (2, 3)])
        self.assertEqual(self.spans(filled(tied()), filled(tied()), filled(tied()), bar()), [(0, 4)])

    def test_to_the_same_bar_walked_again(self):
        self.assertEqual(self.spans(repeat(3, filled(tied()))), [(0, 3)])
        self.assertEqual(self.spans(repeat(2, filled(tone(), rest(), tied()))), [(0, 1), (2, 4), (5, 6)])

    def test_into_a_phrase(self):
        phrases = {"p": (filled(tied(48)),)}
        self.assertEqual(self.spans(use("p", 12), use("p", 12), use("p", 0), phrases=phrases), [(0, 2), (2, 3)])

    def test_behind_the_last_bar(self):
        self.assertEqual(self.spans(filled(rest(), tied())), [(1, 2)])

    def test_to_a_bar_that_lacks_the_voice(self):
        two = voiced((rest(),), (tied(),))
        handed = one_part(two, filled(rest()), two, two)
        self.assertEqual(self.told(handed), [
            (NOUGHT, ONE, "a", 1, (60,)), (TWO, whole(4), "a", 1, (60,))])

    def test_not_to_another_voice(self):
        handed = one_part(voiced((tied(),), (rest(),)), voiced((rest(),), (tone(),)))
        self.assertEqual(self.told(handed), [(NOUGHT, ONE, "a", 0, (60,)), (ONE, TWO, "a", 1, (60,))])


class Held(Sounds):
    GIVES = [(whole(5), "z", "x"), (whole(9), "z", "x")]

    def held_or_not(self, items, ends, gives=GIVES, behind=()):
        """The sounds with held False and True at the last tone of items."""
        for held, told in zip([False, True], ends):
            row = [tone(*item[1:4], held) if item[0] == "tone" and number == len(items) - 1 else item
                   for number, item in enumerate(items)]
            self.assertEqual(self.spans(filled(*row, *behind), gives=gives), told)

    def test_a_wait_at_its_begin(self):
        self.held_or_not([wait("z", "x"), tone()], [[(5, 6)], [(5, 6)]])

    def test_a_wait_at_its_end(self):
        self.held_or_not([tone()], [[(0, 1)], [(0, 5)]], behind=[wait("z", "x")])
        self.held_or_not([tone()], [[(0, 1), (5, 6)], [(0, 5), (5, 6)]], behind=[wait("z", "x"), tone()])
        self.held_or_not([tone()], [[(0, 1)], [(0, 9)]], behind=[wait("z", "x"), wait("z", "x"), rest()])

    def test_a_wait_within_it(self):
        voices = (tone(60, TWO),), (rest(), wait("z", "x"), rest())
        for held in [False, True]:
            handed = one_part(voiced((tone(60, TWO, False, held),), voices[1]))
            self.assertEqual(self.told(handed, self.GIVES), [(NOUGHT, whole(6), "a", 0, (60,))])

    def test_a_wait_between_tied_tones(self):
        self.held_or_not([tied(), wait("z", "x"), tone()], [[(0, 6)], [(0, 6)]])
        # As the last tone is, not as the first one.
        self.held_or_not([tied(60, ONE, True), tone()], [[(0, 2)], [(0, 5)]], behind=[wait("z", "x")])
        self.held_or_not([tied(), tied()], [[(0, 2)], [(0, 5)]], behind=[wait("z", "x")])

    def test_tied_to_another_it_is_held_itself(self):
        first = tied(60, ONE, True)
        self.assertEqual(self.spans(filled(first, wait("z", "x"), tone(61)), gives=self.GIVES), [(0, 5), (5, 6)])
        self.assertEqual(self.spans(filled(first, wait("z", "x"), rest()), gives=self.GIVES), [(0, 5)])

    def test_never(self):
        # What stands behind a wait that never ends isn't told; what lasts up to it ends only where it isn't held.
        self.held_or_not([tone()], [[(0, 1)], [(0, None)]], gives=[], behind=[wait("z", "x"), tone(), tone()])
        self.held_or_not([tied(), wait("z", "x"), tone()], [[(0, None)], [(0, None)]], gives=[])
        self.held_or_not([wait("z", "x"), tone()], [[], []], gives=[])
        self.held_or_not([tied(), tied(), wait("z", "x"), tone()], [[(0, None)], [(0, None)]], gives=[])

    def test_never_within_it(self):
        handed = one_part(voiced((tone(60, TWO),), (rest(), wait("z", "x"), rest())), bar())
        self.assertEqual(self.told(handed), [(NOUGHT, None, "a", 0, (60,))])

    def test_a_wait_at_a_bars_end(self):
        things = filled(tone(60, ONE, False, True), wait("z", "x")), bar()
        self.assertEqual(self.spans(*things, gives=self.GIVES), [(0, 5), (5, 6)])


class Edges(Sounds):
    def test_all_walks_are_needed(self):
        with self.assertRaises(TooLong):
            sounds(score(part("a", bar()), part("b", sign("s"), turn("s"))), [])

    def test_nothing_is_changed_and_all_is_new(self):
        handed, gives = one_part(filled(tied(), wait("z", "x"), tone())), [(TWO, "z", "x")]
        before = copy.deepcopy((handed, gives))
        told = sounds(handed, gives)
        again = list(told)
        told.append("more")
        told[0] = None
        self.assertEqual(sounds(handed, gives), again)
        self.assertEqual((handed, gives), before)

    def test_against_plain_sounds(self):
        many = 0
        for seed in range(60):
            chance = random.Random(seed)
            handed, gives = some_score(chance), some_gives(chance)
            told = self.told(handed, gives)
            self.assertEqual(told, plain_sounds(handed, gives), seed)
            many += len(told)
        self.assertGreater(many, 500)


if __name__ == "__main__":
    unittest.main()
