import copy
import random
import unittest

from making import (
    HALF, NOUGHT, ONE, TWO, Hall, bar, call, clock, filled, fraction, lean, one_part, pace, part, plain_sounds, repeat,
    rest, score, sign, some_changes, some_score, tone, turn, voiced, wait, whole,
)

from manyclocks.changes import played
from manyclocks.errors import TooLong
from manyclocks.fractions import less
from manyclocks.scores import checked
from manyclocks.sounds import sounds


def to_pace(time, beat, name="a"):
    return (time, ("pace", name, beat))


def to_clock(time, beat, name="k"):
    return (time, ("clock", name, beat))


def to_give(time, word="x", giver="z"):
    return (time, ("give", giver, word))


def tones(many):
    """A bar of so many tones of length 1, pitches from 60 on."""
    return filled(*[tone(60 + number) for number in range(many)])


def ahead_of(told, time):
    """The sounds told ahead of a time, as far as they are told by then."""
    begun = [row for row in told if less(row[0], time)]
    return {row if row[1] is not None and less(row[1], time) else (row[0], None, *row[2:]) for row in begun}


class Changes(unittest.TestCase):
    def told(self, handed, *changes):
        checked(handed)
        told = played(handed, list(changes))
        self.assertIsInstance(told, list)
        self.assertEqual(told, plain_sounds(handed, list(changes), Hall))
        return told

    def begins(self, handed, *changes, name="a"):
        """The begins of the sounds of a part, and the last one's end; whole numbers where they are."""
        rows = [row for row in self.told(handed, *changes) if row[2] == name]
        times = [row[0] for row in rows] + [rows[-1][1]]
        return [time if time is None or time[1] > 1 else time[0] for time in times]


class Paces(Changes):
    def test_no_change_at_all(self):
        for seed in range(20):
            handed = some_score(random.Random(seed))
            self.assertEqual(self.told(handed), sounds(handed, []))

    def test_at_the_begin(self):
        self.assertEqual(self.begins(one_part(tones(3)), to_pace(NOUGHT, TWO)), [0, 2, 4, 6])
        late_one = score(part("a", tones(2), begin=whole(3)))
        self.assertEqual(self.begins(late_one, to_pace(whole(3), TWO)), [3, 5, 7])

    def test_ahead_of_the_begin(self):
        late_one = score(part("a", tones(2), begin=whole(3)))
        self.assertEqual(self.begins(late_one, to_pace(ONE, TWO)), [3, 5, 7])
        self.assertEqual(self.begins(late_one, to_pace(ONE, whole(9)), to_pace(TWO, TWO)), [3, 5, 7])

    def test_marks_at_place_nought_hold_ahead_of_the_begin_and_give_way_at_it(self):
        handed = score(part("a", filled(pace(HALF), tone(), tone()), begin=whole(3)))
        self.assertEqual(self.begins(handed, to_pace(TWO, TWO)), [3, (7, 2), 4])
        self.assertEqual(self.begins(handed, to_pace(whole(3), TWO)), [3, 5, 7])
        self.assertEqual(self.begins(handed, to_pace(TWO, whole(9)), to_pace(whole(3), TWO)), [3, 5, 7])

    def test_ahead_of_the_begin_the_first_mark_further_on_holds(self):
        handed = score(part("a", filled(tone(), pace(HALF), tone()), begin=whole(3)))
        self.assertEqual(self.begins(handed, to_pace(TWO, TWO)), [3, 5, (11, 2)])

    def test_within_a_beat(self):
        self.assertEqual(self.begins(one_part(tones(3)), to_pace((3, 2), TWO)), [0, 1, (5, 2), (9, 2)])

    def test_within_a_lean(self):
        handed = one_part(filled(lean(ONE, whole(5), 4), tone(), tone(), tone(), tone(), tone()))
        self.assertEqual(self.begins(handed), [0, 1, 3, 6, 10, 15])
        # What is left of the lean gives way, up to the next mark.
        self.assertEqual(self.begins(handed, to_pace(TWO, TWO)), [0, 1, 3, 5, 7, 9])
        self.assertEqual(self.begins(handed, to_pace(whole(3), whole(3))), [0, 1, 3, 6, 9, 12])

    def test_a_mark_just_there_gives_way(self):
        for mark in [pace(whole(5)), lean(whole(5), whole(7), 2)]:
            handed = one_part(filled(tone(), mark, tone(), tone()))
            self.assertEqual(self.begins(handed, to_pace(ONE, TWO)), [0, 1, 3, 5])

    def test_it_holds_up_to_the_next_mark(self):
        handed = one_part(filled(tone(), tone(), pace(whole(3)), tone(), tone()))
        self.assertEqual(self.begins(handed, to_pace(HALF, TWO)), [0, (3, 2), (7, 2), (13, 2), (19, 2)])
        self.assertEqual(self.begins(handed, to_pace((7, 2), TWO)), [0, 1, 2, (9, 2), (13, 2)])

    def test_while_it_is_held(self):
        handed = one_part(filled(tone(), wait("z", "x"), pace(whole(7)), tone(), tone()))
        # The mark behind the wait isn't done yet and gives way, too.
        self.assertEqual(self.begins(handed, to_pace(TWO, TWO), to_give(whole(3))), [0, 3, 5, 7])
        self.assertEqual(self.begins(handed, to_give(whole(3)), to_pace(whole(3), TWO)), [0, 3, 5, 7])
        self.assertEqual(self.begins(handed, to_pace(whole(3), TWO), to_give(whole(3))), [0, 3, 5, 7])
        self.assertEqual(self.begins(handed, to_give(whole(3)), to_pace(whole(4), TWO)), [0, 3, (40, 7), (54, 7)])

    def test_held_at_place_nought(self):
        handed = one_part(filled(wait("z", "x"), pace(whole(7)), tone(), tone()))
        self.assertEqual(self.begins(handed, to_pace(ONE, TWO), to_give(whole(3))), [3, 5, 7])

    def test_at_a_bars_end(self):
        handed = one_part(filled(tone(), pace(whole(5))), filled(pace(whole(6)), tone()), filled(pace(ONE), tone()))
        self.assertEqual(self.begins(handed), [0, 1, 7, 8])
        self.assertEqual(self.begins(handed, to_pace(ONE, TWO)), [0, 1, 3, 4])

    def test_at_and_behind_the_end(self):
        handed = score(part("a", filled(tone(), call("go"))), part("b", filled(wait("a", "go"), tone())))
        for time in [ONE, (3, 2), whole(9)]:
            self.assertEqual(self.told(handed, to_pace(time, TWO)), sounds(handed, []))

    def test_held_at_the_end(self):
        handed = one_part(filled(tone(60, ONE, False, True), wait("z", "x")))
        changes = to_pace(TWO, TWO), to_give(whole(3)), to_pace(whole(3), TWO), to_pace(whole(4), TWO)
        self.assertEqual(self.begins(handed, *changes), [0, 3])

    def test_of_a_part_without_bars(self):
        handed = score(part("a", begin=ONE), part("b", bar()))
        for time in [NOUGHT, ONE, TWO]:
            self.assertEqual(self.told(handed, to_pace(time, TWO)), sounds(handed, []))

    def test_in_a_repeat_it_holds_for_this_time_alone(self):
        handed = one_part(repeat(2, filled(pace(ONE), tone(), tone())))
        self.assertEqual(self.begins(handed, to_pace(ONE, whole(3))), [0, 1, 4, 5, 6])

    def test_of_a_part_on_a_clock(self):
        clocks = [clock("k", None, NOUGHT, (NOUGHT, pace(HALF)))]
        handed = score(part("a", tones(3), on="k"), clocks=clocks)
        self.assertEqual(self.begins(handed, to_pace(HALF, whole(4))), [0, (1, 2), (5, 2), (9, 2)])

    def test_several_at_one_time(self):
        changes = [to_pace(ONE, whole(9)), to_pace(ONE, TWO)]
        self.assertEqual(self.begins(one_part(tones(3)), *changes), [0, 1, 3, 5])
        self.assertEqual(self.begins(one_part(tones(3)), *reversed(changes)), [0, 1, 10, 19])

    def test_one_behind_another_by_the_changes_ahead(self):
        changes = to_pace(ONE, TWO), to_pace(TWO, whole(4)), to_pace(whole(4), HALF)
        self.assertEqual(self.begins(one_part(tones(3)), *changes), [0, 1, 4, (9, 2)])


class Clocks(Changes):
    CLOCKS = [clock("k", None, TWO, (NOUGHT, pace(TWO)), (whole(3), pace(whole(3)))), clock("l", "k", ONE)]

    def handed(self):
        return score(part("a", tones(4), on="k"), part("b", tones(2), on="l"), part("c", tones(2)), clocks=self.CLOCKS)

    def both(self, *changes):
        handed = self.handed()
        self.assertEqual(self.begins(handed, *changes, name="c"), [0, 1, 2])
        return self.begins(handed, *changes), self.begins(handed, *changes, name="b")

    def test_no_change(self):
        self.assertEqual(self.both(), ([2, 4, 6, 8, 11], [4, 6, 8]))

    def test_ahead_of_its_place_nought(self):
        # The clock's own mark there holds; without one the change does.
        self.assertEqual(self.both(to_clock(ONE, HALF)), ([2, 4, 6, 8, 11], [4, 6, 8]))
        self.assertEqual(self.both(to_clock(whole(3), HALF, "l")), ([2, 4, 6, 8, 11], [4, 5, 6]))
        self.assertEqual(self.both(to_clock(ONE, TWO, "l"), to_clock(TWO, HALF, "l")), ([2, 4, 6, 8, 11], [4, 5, 6]))

    def test_at_its_place_nought(self):
        self.assertEqual(self.both(to_clock(TWO, ONE)), ([2, 3, 4, 5, 8], [3, 4, 5]))

    def test_within_a_beat(self):
        self.assertEqual(self.both(to_clock(whole(3), whole(4))), ([2, 5, 9, 13, 16], [5, 9, 13]))

    def test_just_at_a_mark(self):
        self.assertEqual(self.both(to_clock(whole(8), ONE)), ([2, 4, 6, 8, 9], [4, 6, 8]))

    def test_of_one_that_hangs_on_another(self):
        self.assertEqual(self.both(to_clock(whole(5), TWO, "l")), ([2, 4, 6, 8, 11], [4, 7, (25, 2)]))

    def test_several_at_one_time(self):
        changes = to_clock(whole(4), ONE), to_clock(whole(4), TWO, "l"), to_pace(whole(4), HALF), to_give(whole(4))
        self.assertEqual(self.both(*changes), ([2, 4, (9, 2), 5, (11, 2)], [4, 6, 12]))

    def test_within_a_lean(self):
        clocks = [clock("k", None, NOUGHT, (NOUGHT, lean(ONE, whole(3), 2)), (whole(3), pace(ONE)))]
        handed = score(part("a", tones(4), on="k"), clocks=clocks)
        self.assertEqual(self.begins(handed), [0, 1, 3, 6, 7])
        self.assertEqual(self.begins(handed, to_clock(TWO, whole(4))), [0, 1, 4, 8, 9])

    def test_who_neither_hangs_on_it_nor_waits_stays(self):
        things = filled(wait("a", "go"), tone())
        handed = score(
            part("a", filled(tone(), call("go")), on="k"), part("b", things), part("c", bar()), part("d", bar(), on="l"),
            clocks=[clock("k"), clock("l")])
        before, told = sounds(handed, []), self.told(handed, to_clock(HALF, whole(3)))
        self.assertEqual([row for row in told if row[2] in "cd"], [row for row in before if row[2] in "cd"])
        self.assertEqual([row[:3] for row in told if row[2] in "ab"], [(NOUGHT, TWO, "a"), (TWO, whole(3), "b")])

    def test_a_part_and_a_clock_of_one_name_ahead_of_their_begins(self):
        handed = score(part("k", filled(pace(TWO), tone()), on="k"), clocks=[clock("k", None, TWO, (NOUGHT, pace(TWO)))])
        for changes in [[to_clock(ONE, HALF), to_pace(ONE, HALF, "k")], [to_pace(ONE, HALF, "k"), to_clock(ONE, HALF)]]:
            self.assertEqual(self.begins(handed, *changes, name="k"), [2, 6])

    def test_while_what_hangs_on_it_is_held(self):
        handed = score(part("a", filled(tone(), wait("z", "x"), tone(), tone()), on="k"), clocks=[clock("k")])
        changes = to_clock(TWO, whole(4)), to_give(whole(3)), to_clock(whole(5), ONE)
        self.assertEqual(self.begins(handed, *changes), [0, 3, (11, 2), (13, 2)])


class Gives(Changes):
    def test_between_and_at_the_time_of_the_wait(self):
        handed = one_part(filled(tone(), wait("z", "x"), tone()))
        for time, begin in [(NOUGHT, 1), (ONE, 1), (whole(3), 3)]:
            self.assertEqual(self.begins(handed, to_give(time)), [0, begin, begin + 1])

    def test_more_and_fewer_and_of_calls_that_nobody_waits_for(self):
        handed = one_part(filled(wait("z", "x"), tone(), wait("z", "x"), tone()))
        self.assertEqual(self.begins(handed, to_give(ONE), to_give(whole(5)), to_give(whole(9))), [1, 5, 6])
        self.assertEqual(self.begins(handed, to_give(ONE), to_give(ONE, "y"), to_give(TWO, "x", "y")), [1, 2])
        self.assertEqual(self.told(handed, to_give(TWO, "y")), [])

    def test_several_at_one_time(self):
        handed = one_part(filled(wait("z", "x"), wait("z", "x"), tone()))
        self.assertEqual(self.begins(handed, to_give(TWO), to_give(TWO)), [2, 3])


class Whole(Changes):
    def test_against_a_play_by_speeds(self):
        many = 0
        for seed in range(150):
            chance = random.Random(seed)
            handed = some_score(chance)
            many += len(self.told(handed, *some_changes(chance, handed)))
        self.assertGreater(many, 1500)

    def test_what_was_told_ahead_of_each_change_stays(self):
        for seed in range(100):
            chance = random.Random(seed)
            handed = some_score(chance)
            changes = some_changes(chance, handed, 6)
            for many, (time, deed) in enumerate(changes):
                before, behind = played(handed, changes[:many]), played(handed, changes[:many + 1])
                self.assertEqual(ahead_of(before, time), ahead_of(behind, time))

    def test_long_numbers(self):
        top = int("7" * 400)
        time = (top, 10 ** 399)
        told = self.told(one_part(tones(9)), to_pace(time, (3, 7)))
        self.assertEqual(fraction(told[8][0]), fraction(time) + (8 - fraction(time)) * fraction((3, 7)))

    def test_all_walks_are_needed(self):
        handed = score(part("a", bar()), part("b", sign("s"), turn("s")))
        for changes in [[], [to_pace(ONE, TWO)]]:
            with self.assertRaises(TooLong):
                played(handed, changes)

    def test_nothing_is_changed_and_all_is_new(self):
        handed = score(part("a", voiced((tone(), tone()), (rest(TWO),)), on="k"), clocks=[clock("k")])
        changes = [to_pace(HALF, TWO), to_clock(HALF, TWO), to_give(HALF)]
        before = copy.deepcopy((handed, changes))
        told = played(handed, changes)
        again = list(told)
        told.append("more")
        told[0] = None
        self.assertEqual(played(handed, changes), again)
        self.assertEqual((handed, changes), before)


if __name__ == "__main__":
    unittest.main()
