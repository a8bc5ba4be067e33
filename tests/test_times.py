import copy
import random
import unittest

from making import (
    HALF, NOUGHT, ONE, TWO, Stage, bar, call, clock, ended, filled, lean, meet, one_part, pace, pair, part, repeat,
    rest, score, sign, some_gives, some_score, turn, use, voiced, wait, walked_marks, whole,
)

from manyclocks.errors import TooLong
from manyclocks.scores import checked
from manyclocks.times import early, late, waits

# b calls x at 4, and comes to its end at 6.
CALLER = part("b", filled(rest(whole(4)), call("x"), rest(TWO)))


class Times(unittest.TestCase):
    def both(self, handed, gives, name, place, first, last):
        self.assertEqual(early(handed, gives, name, place), first)
        self.assertEqual(late(handed, gives, name, place), last)

    def same(self, handed, name, place, time, gives=()):
        self.both(handed, list(gives), name, place, time, time)


class OnTimeAndOnClocks(Times):
    def test_on_time(self):
        handed = one_part(bar(), bar(size=TWO))
        for place in [NOUGHT, HALF, ONE, TWO, whole(3)]:
            self.same(handed, "a", place, place)

    def test_begin(self):
        handed = score(part("a", bar(), begin=(5, 2)))
        self.same(handed, "a", NOUGHT, (5, 2))
        self.same(handed, "a", ONE, (7, 2))

    def test_paces_in_bars(self):
        things = filled(rest(), pace(TWO), rest(), pace(HALF), rest()), bar()
        handed = one_part(*things)
        for place, time in [(0, 0), (1, 1), (2, 3)]:
            self.same(handed, "a", whole(place), whole(time))
        self.same(handed, "a", (5, 2), (13, 4))
        self.same(handed, "a", whole(4), whole(4))

    def test_a_lean_goes_on_beyond_its_bar(self):
        handed = one_part(filled(lean(ONE, whole(3), 2), rest()), bar(), bar(), bar())
        for place, time in enumerate([0, 1, 3, 6, 9]):
            self.same(handed, "a", whole(place), whole(time))

    def test_marks_of_pace_walked_again(self):
        handed = one_part(repeat(2, filled(rest(), pace(TWO), rest(), pace(ONE))), filled(rest(), pace(HALF)))
        for place, time in enumerate([0, 1, 3, 4, 6, 7]):
            self.same(handed, "a", whole(place), whole(time))
        turned = one_part(sign("s"), filled(rest(), pace(TWO), rest()), turn("s", None))
        # The pace of the first time still holds as the bar is walked again.
        for place, time in enumerate([0, 1, 3, 5, 7]):
            self.same(turned, "a", whole(place), whole(time))

    def test_the_bar_ahead_comes_first_at_one_place(self):
        # So the pace of the next bar's begin is the later one there.
        handed = one_part(filled(rest(), pace(TWO)), filled(pace(HALF), rest()))
        self.same(handed, "a", TWO, (3, 2))
        turned = one_part(filled(pace(HALF), rest(), pace(TWO)), bar())
        self.same(turned, "a", TWO, (5, 2))

    def test_marks_of_pace_by_voices(self):
        handed = one_part(voiced((pace(TWO), rest()), (pace(whole(3)), rest())))
        self.same(handed, "a", ONE, whole(3))

    def test_on_a_clock(self):
        slow = clock("slow", None, whole(10), (NOUGHT, pace(TWO)), (whole(3), pace(whole(5))))
        handed = score(part("a", filled(rest(), pace(HALF), rest(whole(4))), on="slow", begin=ONE), clocks=[slow])
        self.same(handed, "a", NOUGHT, whole(12))
        self.same(handed, "a", ONE, whole(14))
        # Two beats of it, each half as long, are one of the clock.
        self.same(handed, "a", whole(3), whole(16))
        self.same(handed, "a", whole(5), whole(21))

    def test_phrases_go_by_their_uses(self):
        handed = one_part(use("p", 0, TWO), use("p", 0, HALF), phrases={"p": (filled(rest(), pace(TWO), rest()),)})
        # The places of marks go as the lengths do, the paces stay as they are.
        for place, time in [(0, 0), (2, 2), (4, 6), (5, 8)]:
            self.same(handed, "a", whole(place), whole(time))
        self.same(handed, "a", (9, 2), whole(7))


class Waits(Times):
    def test_given_later(self):
        handed = score(part("a", filled(rest(), wait("b", "x"), rest())), CALLER)
        self.assertEqual(waits(handed, []), {"a": [(ONE, whole(4))], "b": []})
        self.same(handed, "a", HALF, HALF)
        self.both(handed, [], "a", ONE, ONE, whole(4))
        self.same(handed, "a", (3, 2), (9, 2))
        self.same(handed, "a", TWO, whole(5))
        self.same(handed, "b", whole(6), whole(6))

    def test_given_ahead(self):
        handed = score(part("a", filled(rest(whole(5)), wait("b", "x"), rest())), CALLER)
        self.assertEqual(waits(handed, [])["a"], [(whole(5), whole(5))])
        self.same(handed, "a", whole(5), whole(5))
        self.same(handed, "a", whole(6), whole(6))

    def test_given_just_then(self):
        handed = score(part("a", filled(rest(whole(4)), wait("b", "x"), rest())), CALLER)
        self.assertEqual(waits(handed, [])["a"], [(whole(4), whole(4))])
        self.same(handed, "a", whole(5), whole(5))

    def test_never_given(self):
        handed = score(part("a", filled(rest(), wait("b", "y"), rest(), wait("b", "x")), bar()), CALLER)
        self.assertEqual(waits(handed, []), {"a": [(ONE, None)], "b": []})
        self.same(handed, "a", HALF, HALF)
        self.both(handed, [], "a", ONE, ONE, None)
        for place in [(3, 2), TWO, whole(3)]:
            self.both(handed, [], "a", place, None, None)

    def test_at_the_begin_and_at_the_end(self):
        handed = score(part("a", filled(wait("b", "x"), rest(), wait("b", "y"))),
                       part("b", filled(rest(), call("x"), rest(whole(8)), call("y"))))
        self.both(handed, [], "a", NOUGHT, NOUGHT, ONE)
        self.both(handed, [], "a", ONE, TWO, whole(9))

    def test_the_marks_behind_it_are_held(self):
        # c waits for what a gives ahead of its wait and behind it, at one place.
        marks = (call("x"), wait("b", "x"), call("y"), wait("b", "y"), call("z"))
        listener = filled(wait("a", "x"), wait("a", "y"), wait("a", "z"), rest())
        giver = filled(rest(whole(4)), call("x"), rest(TWO), call("y"))
        handed = score(part("a", filled(rest(), *marks, rest())), part("b", giver), part("c", listener))
        told = waits(handed, [])
        self.assertEqual(told["a"], [(ONE, whole(4)), (whole(4), whole(6))])
        self.assertEqual(told["c"], [(NOUGHT, ONE), (ONE, whole(4)), (whole(4), whole(6))])
        self.both(handed, [], "a", ONE, ONE, whole(6))
        self.same(handed, "a", TWO, whole(7))

    def test_the_marks_behind_it_in_other_voices_are_held(self):
        voices = (rest(), wait("b", "x"), rest()), (rest(), call("z"), rest())
        handed = score(part("a", voiced(*voices)), CALLER, part("c", filled(wait("a", "z"), rest())))
        self.assertEqual(waits(handed, [])["c"], [(NOUGHT, whole(4))])
        swapped = score(part("a", voiced(*voices[::-1])), CALLER, part("c", filled(wait("a", "z"), rest())))
        self.assertEqual(waits(swapped, [])["c"], [(NOUGHT, ONE)])

    def test_a_wait_at_a_bars_end_holds_the_next_ones_marks(self):
        things = filled(rest(), wait("b", "x")), filled(call("z"), rest())
        handed = score(part("a", *things), CALLER, part("c", filled(wait("a", "z"), rest())))
        self.assertEqual(waits(handed, [])["c"], [(NOUGHT, whole(4))])
        self.both(handed, [], "a", ONE, ONE, whole(4))

    def test_itself(self):
        handed = one_part(filled(call("x"), rest(), wait("a", "x"), rest()))
        self.assertEqual(waits(handed, []), {"a": [(ONE, ONE)]})
        for things in [(wait("a", "x"), rest(), call("x")), (wait("a", "x"), call("x"), rest())]:
            self.assertEqual(waits(one_part(filled(*things)), []), {"a": [(NOUGHT, None)]})

    def test_the_kth_wait_is_for_the_kth_call(self):
        caller = part("b", repeat(3, filled(rest(TWO), call("x"))))
        waiter = part("a", repeat(4, filled(wait("b", "x"), rest())))
        handed = score(waiter, caller)
        self.assertEqual(waits(handed, [])["a"], [
            (NOUGHT, TWO), (whole(3), whole(4)), (whole(5), whole(6)), (whole(7), None)])

    def test_calls_of_other_words_and_parts_count_apart(self):
        caller = part("b", filled(call("y"), rest(), call("x"), rest(), call("y"), rest(), call("x")))
        other = part("c", filled(call("x"), rest()))
        waiter = part("a", filled(wait("b", "x"), wait("c", "x"), wait("b", "y"), wait("b", "x"), wait("b", "y"),
                                  rest()))
        told = waits(score(waiter, caller, other), [])["a"]
        self.assertEqual([row[1] for row in told], [ONE, ONE, ONE, whole(3), whole(3)])

    def test_in_repeats_and_phrases(self):
        phrases = (("go", (filled(rest(), call("x")),)), ("hold", (filled(wait("b", "x"), rest()),)))
        waiter = part("a", repeat(2, use("hold")), use("hold", 12, TWO))
        caller = part("b", use("go", 0, TWO), ended(2, (use("go", 0, whole(3)),), ((1,), (bar(),)), ((2,), ())))
        handed = score(waiter, caller, phrases=phrases)
        # b calls at 2, 5 and 9.
        self.assertEqual(waits(handed, [])["a"], [(NOUGHT, TWO), (whole(3), whole(5)), (whole(6), whole(9))])
        self.same(handed, "a", whole(4), whole(11))

    def test_both_wait_for_one_another(self):
        one = filled(wait("b", "x"), rest(), call("x"))
        other = filled(rest(TWO), call("x"), wait("a", "x"))
        handed = score(part("a", repeat(3, one)), part("b", repeat(3, other)))
        self.assertEqual(waits(handed, []), {
            "a": [(NOUGHT, TWO), (whole(3), whole(5)), (whole(6), whole(8))],
            "b": [(TWO, whole(3)), (whole(5), whole(6)), (whole(8), whole(9))],
        })


class Gives(Times):
    WAITER = part("a", filled(wait("z", "x"), rest(), wait("z", "x"), rest()))

    def test_gives(self):
        handed = score(self.WAITER)
        told = waits(handed, [(TWO, "z", "x"), ((5, 2), "z", "x")])
        self.assertEqual(told, {"a": [(NOUGHT, TWO), (whole(3), whole(3))]})

    def test_at_one_time(self):
        handed = score(self.WAITER)
        gives = [(whole(4), "z", "x"), (whole(4), "z", "x")]
        self.assertEqual(waits(handed, gives), {"a": [(NOUGHT, whole(4)), (whole(5), whole(5))]})
        self.both(handed, gives, "a", NOUGHT, NOUGHT, whole(4))

    def test_more_and_fewer_than_waits(self):
        handed = score(self.WAITER)
        more = [(time, "z", "x") for time in [ONE, TWO, whole(3), whole(3)]]
        self.assertEqual(waits(handed, more), {"a": [(NOUGHT, ONE), (TWO, TWO)]})
        self.assertEqual(waits(handed, more[:1]), {"a": [(NOUGHT, ONE), (TWO, None)]})
        self.assertEqual(waits(handed, []), {"a": [(NOUGHT, None)]})

    def test_other_givers_and_words_count_for_nothing(self):
        handed = score(self.WAITER)
        gives = [(ONE, "y", "x"), (ONE, "z", "y"), (TWO, "z", "x")]
        self.assertEqual(waits(handed, gives), {"a": [(NOUGHT, TWO), (whole(3), None)]})

    def test_gives_of_a_part_count_for_nothing(self):
        handed = score(part("a", filled(wait("b", "x"), wait("b", "x"), rest())), CALLER)
        gives = [(NOUGHT, "b", "x"), (ONE, "b", "x"), (ONE, "a", "x")]
        self.assertEqual(waits(handed, gives), {"a": [(NOUGHT, whole(4)), (whole(4), None)], "b": []})


class OnFromTheClock(Times):
    def test_on_from_where_the_clock_is_by_then(self):
        # The clock's beats are 1, 2, 3 long, then 4 each.
        late_clock = clock("c", None, NOUGHT, (NOUGHT, lean(ONE, whole(4), 3)))
        handed = score(part("a", filled(rest(), wait("z", "x"), rest()), on="c"), clocks=[late_clock])
        gives = [(whole(2), "z", "x")]
        self.assertEqual(waits(handed, gives), {"a": [(ONE, TWO)]})
        # At 2 the clock is at 3/2; a beat later it is at 5/2.
        self.same(handed, "a", TWO, (9, 2), gives)
        self.same(handed, "a", TWO, whole(10), [(whole(6), "z", "x")])
        self.same(handed, "a", TWO, whole(104), [(whole(100), "z", "x")])

    def test_on_a_clock_that_hangs_on_another(self):
        clocks = [clock("in", "out", ONE, (NOUGHT, pace(TWO))), clock("out", None, ONE, (whole(5), pace(HALF)))]
        handed = score(part("a", filled(wait("z", "x"), pace(whole(3)), rest()), on="in"), clocks=clocks)
        self.same(handed, "a", ONE, whole(7), [(NOUGHT, "z", "x")])
        self.both(handed, [(whole(4), "z", "x")], "a", NOUGHT, TWO, whole(4))
        # Six beats of out from its place 3 on: two of them long, four short.
        self.same(handed, "a", ONE, whole(8), [(whole(4), "z", "x")])


class Edges(Times):
    def test_parts_of_no_bars(self):
        handed = score(part("a", begin=TWO), part("b", repeat(3), on="c", begin=ONE),
                       clocks=[clock("c", None, ONE, (NOUGHT, pace(TWO)))])
        self.assertEqual(waits(handed, []), {"a": [], "b": []})
        self.same(handed, "a", NOUGHT, TWO)
        self.same(handed, "b", NOUGHT, whole(3))

    def test_meetings_and_calls_hold_nobody(self):
        handed = one_part(filled(meet("x"), rest(), call("x"), meet("x"), rest(), meet("y")))
        self.assertEqual(waits(handed, []), {"a": []})
        self.same(handed, "a", TWO, TWO)

    def test_all_walks_are_needed(self):
        long = part("b", sign("s"), bar(), turn("s"))
        handed = score(part("a", bar()), long)
        checked(handed)
        for told in [waits, lambda *given: early(*given, "a", NOUGHT), lambda *given: late(*given, "a", NOUGHT)]:
            with self.assertRaises(TooLong):
                told(handed, [])

    def test_nothing_is_changed_and_all_is_new(self):
        handed = score(part("a", filled(rest(), wait("b", "x"), rest(), wait("z", "x"))), CALLER)
        gives = [(TWO, "z", "x")]
        before = copy.deepcopy(handed), copy.deepcopy(gives)
        told = waits(handed, gives)
        again = copy.deepcopy(told)
        told["a"].append("more")
        told["b"].append("more")
        del told["b"]
        self.assertEqual(waits(handed, gives), again)
        early(handed, gives, "a", ONE)
        late(handed, gives, "a", ONE)
        self.assertEqual((handed, gives), before)

    def test_long_rows_of_waits(self):
        # Each part waits 729 times for the one ahead of it; the last one begins.
        names = "abcdef"
        parts = []
        for number, name in enumerate(names):
            first = (call("x"),) if name == names[-1] else ()
            step = filled(wait(names[number - 1], "x"), rest(), call("x"))
            parts.append(part(name, filled(rest(), *first), repeat(9, repeat(9, repeat(9, step)))))
        told = waits(score(*parts), [])
        self.assertEqual(told["a"][-1], (whole(2 + 6 * 727), whole(1 + 6 * 728)))
        self.assertEqual(told["f"][-1], (whole(1 + 6 * 728), whole(6 * 729)))
        for name in names:
            self.assertEqual(len(told[name]), 729)
            self.assertTrue(all(row[1] is not None for row in told[name]))


class AgainstThePlainStage(Times):
    def test_waits(self):
        for seed in range(150):
            chance = random.Random(seed)
            handed, gives = some_score(chance), some_gives(chance)
            checked(handed)
            stage = Stage(handed, gives)
            self.assertEqual(waits(handed, gives), {name: stage.times(name, "wait") for name in stage.log}, seed)

    def test_early_and_late(self):
        for seed in range(40):
            chance = random.Random(seed)
            handed, gives = some_score(chance), some_gives(chance)
            for row in handed[2]:
                marks, length = walked_marks(handed, row[0])
                places = [pair(length * step / 4) for step in range(5)] + [pair(mark[0]) for mark in marks]
                places = list(dict.fromkeys(places))
                stage = Stage(handed, gives, {row[0]: places})
                for place in places:
                    told = stage.probed(row[0], "early", place), stage.probed(row[0], "late", place)
                    self.both(handed, gives, row[0], place, *told)


if __name__ == "__main__":
    unittest.main()
