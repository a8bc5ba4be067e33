import copy
import random
import unittest

from making import (
    HALF, NOUGHT, ONE, TWO, bar, call, clock, filled, fraction, lean, one_part, pace, pair, part, repeat, rest, score,
    sign, some_gives, some_score, turn, use, wait, walked_marks, whole,
)

from manyclocks.errors import TooLong
from manyclocks.lines import line
from manyclocks.places import begin_of, where
from manyclocks.scores import checked
from manyclocks.times import early, late
from manyclocks.walks import walk


def bar_begins(handed, name):
    """The places where the walked bars begin, and the walk's end."""
    entries = line(handed, name)
    told = [fraction(NOUGHT)]
    for at in walk(handed, name):
        told.append(told[-1] + fraction(entries[at][1][1]))
    return told


class Places(unittest.TestCase):
    def at(self, handed, time, told, gives=(), name="a"):
        self.assertEqual(where(handed, list(gives), name, time), told)

    def rows(self, handed, rows, gives=()):
        checked(handed)
        for time, told in rows:
            self.at(handed, time, told, gives)


class Where(Places):
    def test_plain(self):
        handed = score(part("a", bar(size=TWO), bar(), begin=ONE))
        self.rows(handed, [
            (NOUGHT, None), (HALF, None), (ONE, (0, NOUGHT)), ((3, 2), (0, HALF)), ((23, 8), (0, (15, 8))),
            (whole(3), (1, NOUGHT)), ((15, 4), (1, (3, 4))), (whole(4), None), (whole(50), None)])

    def test_without_bars(self):
        for handed in [one_part(), score(part("a", begin=ONE)), one_part(repeat(2))]:
            self.rows(handed, [(NOUGHT, None), (HALF, None), (ONE, None), (TWO, None)])

    def test_while_it_is_held(self):
        handed = one_part(filled(rest(), wait("z", "x"), rest()), filled(wait("z", "x"), rest()))
        self.rows(handed, [
            (HALF, (0, HALF)), (ONE, (0, ONE)), (TWO, (0, ONE)), (whole(4), (0, ONE)), ((9, 2), (0, (3, 2))),
            (whole(5), (1, NOUGHT)), ((13, 2), (1, NOUGHT)), (whole(7), (1, NOUGHT)), ((15, 2), (1, HALF)),
            (whole(8), None)], [(whole(4), "z", "x"), (whole(7), "z", "x")])

    def test_held_by_several_waits_at_one_place(self):
        handed = one_part(filled(rest(), wait("z", "x"), wait("z", "y"), wait("z", "x"), rest()))
        gives = [(whole(3), "z", "x"), (whole(4), "z", "y"), (whole(6), "z", "x")]
        self.rows(handed, [((3, 4), (0, (3, 4)))] + [(whole(time), (0, ONE)) for time in range(1, 7)] + [
            ((13, 2), (0, (3, 2))), (whole(7), None)], gives)

    def test_at_its_begin(self):
        handed = score(part("a", filled(wait("z", "x"), rest()), begin=ONE))
        self.rows(handed, [(HALF, None), (ONE, (0, NOUGHT)), (TWO, (0, NOUGHT)), (whole(3), (0, NOUGHT)),
                           ((7, 2), (0, HALF)), (whole(4), None)], [(whole(3), "z", "x")])

    def test_at_a_bars_end(self):
        # Held by the bar ahead it is at the begin of the next one, too.
        handed = one_part(filled(rest(), wait("z", "x")), bar())
        self.rows(handed, [(ONE, (1, NOUGHT)), (TWO, (1, NOUGHT)), (whole(4), (1, NOUGHT)), ((9, 2), (1, HALF)),
                           (whole(5), None)], [(whole(4), "z", "x")])

    def test_at_the_last_bars_end(self):
        handed = one_part(bar(), filled(rest(TWO), wait("z", "x")))
        gives = [(whole(5), "z", "x")]
        self.rows(handed, [((5, 2), (1, (3, 2))), (whole(3), (1, TWO)), (whole(4), (1, TWO)), ((14, 3), (1, TWO)),
                           (whole(5), None), (whole(6), None)], gives)
        # A wait that holds nobody is none.
        self.rows(handed, [((5, 2), (1, (3, 2))), (whole(3), None), (whole(4), None)], [(TWO, "z", "x")])
        self.rows(handed, [((5, 2), (1, (3, 2))), (whole(3), None), (whole(4), None)], [(whole(3), "z", "x")])

    def test_standing_for_ever(self):
        handed = one_part(bar(), filled(rest(), wait("z", "x"), rest()), bar())
        self.rows(handed, [(ONE, (1, NOUGHT)), (TWO, (1, ONE)), (whole(3), (1, ONE)), (whole(999999), (1, ONE))])
        ended = one_part(bar(), filled(rest(), wait("z", "x")))
        self.rows(ended, [((3, 2), (1, HALF)), (TWO, (1, ONE)), (whole(99), (1, ONE))])
        begun = score(part("a", filled(wait("a", "x"), rest(), call("x")), begin=ONE))
        self.rows(begun, [(HALF, None), (ONE, (0, NOUGHT)), (whole(99), (0, NOUGHT))])

    def test_held_first_and_standing_then(self):
        handed = one_part(filled(rest(), wait("z", "x"), rest(), wait("z", "y"), rest()))
        self.rows(handed, [(TWO, (0, ONE)), ((7, 2), (0, (3, 2))), (whole(4), (0, TWO)), (whole(9), (0, TWO))],
                  [(whole(3), "z", "x")])

    def test_paces(self):
        handed = one_part(filled(rest(), pace(TWO), rest()), filled(lean(ONE, whole(3), 2), rest(), rest()))
        self.rows(handed, [(HALF, (0, HALF)), (ONE, (0, ONE)), (TWO, (0, (3, 2))), (whole(3), (1, NOUGHT)),
                           (whole(4), (1, ONE)), (whole(5), (1, (3, 2))), (whole(6), None)])

    def test_clocks(self):
        late_clock = clock("c", None, ONE, (NOUGHT, lean(ONE, whole(4), 3)))
        handed = score(part("a", filled(rest(), wait("z", "x"), rest()), on="c"), clocks=[late_clock])
        # The clock is at 3/2 as the wait ends at 3.
        self.rows(handed, [(HALF, None), (ONE, (0, NOUGHT)), ((3, 2), (0, HALF)), (TWO, (0, ONE)), ((5, 2), (0, ONE)),
                           (whole(3), (0, ONE)), (whole(4), (0, (3, 2))), ((11, 2), None)], [(whole(3), "z", "x")])

    def test_repeats_and_phrases(self):
        handed = one_part(repeat(2, bar(), use("p", 0, TWO)), phrases={"p": (bar(),)})
        self.rows(handed, [(ONE, (1, NOUGHT)), ((5, 2), (1, (3, 2))), (whole(3), (2, NOUGHT)), (whole(5), (3, ONE)),
                           (whole(6), None)])


class BeginOf(Places):
    def test_each_bar(self):
        handed = score(part("a", bar(size=TWO), repeat(2, bar()), begin=ONE))
        self.assertEqual([begin_of(handed, [], "a", number) for number in range(3)], [ONE, whole(3), whole(4)])

    def test_the_early_time(self):
        handed = one_part(filled(wait("z", "x"), rest(), wait("z", "x")), bar(), bar())
        gives = [(TWO, "z", "x"), (whole(9), "z", "x")]
        self.assertEqual([begin_of(handed, gives, "a", number) for number in range(3)], [NOUGHT, whole(3), whole(10)])

    def test_not_come_to(self):
        handed = one_part(bar(), filled(rest(), wait("z", "x")), bar(), bar())
        self.assertEqual([begin_of(handed, [], "a", number) for number in range(4)], [NOUGHT, ONE, TWO, None])
        within = one_part(bar(), filled(rest(), wait("z", "x"), rest()), bar())
        self.assertEqual([begin_of(within, [], "a", number) for number in range(3)], [NOUGHT, ONE, None])

    def test_bars_that_are_not_there(self):
        self.assertIsNone(begin_of(one_part(bar(), bar()), [], "a", 2))
        self.assertIsNone(begin_of(one_part(bar(), bar()), [], "a", -1))
        self.assertIsNone(begin_of(one_part(), [], "a", 0))


class Both(Places):
    def test_all_walks_are_needed(self):
        handed = score(part("a", bar()), part("b", sign("s"), turn("s")))
        with self.assertRaises(TooLong):
            where(handed, [], "a", NOUGHT)
        with self.assertRaises(TooLong):
            begin_of(handed, [], "a", 0)

    def test_nothing_is_changed(self):
        handed, gives = one_part(filled(rest(), wait("z", "x"), rest())), [(TWO, "z", "x")]
        before = copy.deepcopy((handed, gives))
        where(handed, gives, "a", ONE)
        begin_of(handed, gives, "a", 0)
        self.assertEqual((handed, gives), before)

    def test_held_against_one_another(self):
        for seed in range(40):
            chance = random.Random(seed)
            handed, gives = some_score(chance), some_gives(chance)
            for name in [row[0] for row in handed[2]]:
                begins = bar_begins(handed, name)
                for number in range(len(begins) - 1):
                    time = begin_of(handed, gives, name, number)
                    self.assertEqual(time, early(handed, gives, name, pair(begins[number])))
                    if time is not None:
                        self.at(handed, time, (number, NOUGHT), gives, name)

    def test_some_scores(self):
        """From the early time of a place to its late one the part is there."""
        for seed in range(30):
            chance = random.Random(seed)
            handed, gives = some_score(chance), some_gives(chance)
            for name in [row[0] for row in handed[2]]:
                marks, length = walked_marks(handed, name)
                for place in {length * step / 5 for step in range(6)} | {mark[0] for mark in marks}:
                    self.stays(handed, gives, name, place)

    def stays(self, handed, gives, name, place):
        begins = bar_begins(handed, name)
        number = max(number for number, begin in enumerate(begins[:-1]) if begin <= place)
        told = (number, pair(place - begins[number]))
        first, last = [when(handed, gives, name, pair(place)) for when in (early, late)]
        if first is None:
            return
        low = fraction(first)
        high = low + 99 if last is None else fraction(last)
        times = {low, low + (high - low) / 3, high}
        for time in times:
            over = place == begins[-1] and last is not None and time == high
            self.at(handed, pair(time), None if over else told, gives, name)
        if place == 0 and low > 0:
            self.at(handed, pair(low * 2 / 3), None, gives, name)
        if place == begins[-1] and last is not None:
            self.at(handed, pair(high + 1), None, gives, name)


if __name__ == "__main__":
    unittest.main()
