import unittest

from making import (
    HALF, NOUGHT, ONE, TWO, bar, group, nested_groups, odd_things, plain_things, rest, spoilt, spots, tone,
)

from manyclocks.bars import is_bar, marks_of, voice_of

MARKED = ("bar", TWO, (
    (("call", "a"), rest(), ("call", "b"), ("meet", "c"), rest(), ("call", "d")),
    (rest(TWO), ("pace", TWO)),
    (("lean", ONE, TWO, 3), tone(60, HALF), ("call", "e"), group(3, 2, rest((3, 4)), ("wait", "g", "x")), rest(), ("call", "f")),
    (tone(60, HALF, True, False), group(1, 1, ("call", "g"), rest(HALF), ("call", "h")), rest(), ("meet", "i")),
))


def row_of(many, size=ONE):
    """A voice of so many items: one rest, and calls."""
    return (rest(size),) + (("call", "x"),) * (many - 1)


class IsBar(unittest.TestCase):
    def refuse(self, *things):
        for thing in things:
            self.assertIs(is_bar(thing), False, thing)

    def take(self, *things):
        for thing in things:
            self.assertIs(is_bar(thing), True, thing)

    def test_right_ones(self):
        self.take(bar(), bar(-3, (7, 6)), MARKED)

    def test_one_to_four_voices(self):
        voice = (rest(),)
        for many in range(1, 5):
            self.take(("bar", ONE, (voice,) * many))
        for many in [0, 5, 6]:
            self.refuse(("bar", ONE, (voice,) * many))

    def test_forty_items(self):
        self.take(("bar", ONE, (row_of(40),)), ("bar", ONE, (row_of(40),) * 4))
        self.refuse(("bar", ONE, (row_of(41),)), ("bar", ONE, (row_of(40), row_of(41))), ("bar", ONE, (row_of(99),)))

    def test_groups_and_those_in_them_are_counted(self):
        self.take(("bar", ONE, ((group(1, 1, *row_of(39)),),)))
        self.refuse(("bar", ONE, ((group(1, 1, *row_of(40)),),)))
        self.take(("bar", ONE, ((group(1, 1, group(1, 1, *row_of(37))), ("call", "x")),)))
        self.refuse(("bar", ONE, ((group(1, 1, group(1, 1, *row_of(37))), ("call", "x"), ("call", "x")),)))
        halves = group(1, 1, *row_of(19, HALF))
        self.take(("bar", ONE, ((halves, halves),)))
        self.refuse(("bar", ONE, ((halves, halves, ("call", "x")),)))

    def test_each_voice_comes_to_the_size(self):
        self.refuse(("bar", ONE, ((rest(TWO),),)), ("bar", TWO, ((rest(),),)), ("bar", ONE, ((rest(), rest((1, 99))),)))
        self.refuse(("bar", ONE, ((rest(),), (rest(HALF),))), ("bar", ONE, ((),)), ("bar", ONE, ((("call", "x"),),)))
        self.refuse(("bar", ONE, ((rest(),), ())))
        self.take(("bar", ONE, ((group(3, 2, rest(HALF), rest(HALF), rest(HALF)),), (rest((1, 3)), rest((2, 3))))))

    def test_size(self):
        self.refuse(("bar", NOUGHT, ((),)), ("bar", NOUGHT, ((("call", "x"),),)), ("bar", (-1, 1), ((rest(),),)))
        for size in [(2, 2), (1, -1), 1, None, "1", (1,), (True, 1), (1, True), [1, 1]]:
            self.refuse(("bar", size, ((rest(),),)))

    def test_groups_deep(self):
        self.take(("bar", ONE, ((nested_groups(6),),)))
        self.refuse(("bar", ONE, ((nested_groups(7),),)))

    def test_form(self):
        self.refuse(bar() + (1,), bar()[:2], bar()[1:], ("Bar",) + bar()[1:], list(bar()), ("rest", ONE, ((rest(),),)))
        self.refuse(("bar", ONE, (rest(),)), ("bar", ONE, rest()), ("bar", ONE, [(rest(),)]), ("bar", ONE, ([rest()],)))
        self.refuse(("bar", ONE, ((rest(), None),)), ("bar", ONE, ((("sign", "x"), rest()),)), ("bar", ONE, ((bar(),),)))

    def test_of_anything(self):
        for thing in plain_things():
            self.refuse(thing)
        for way in spots(MARKED):
            for other in odd_things():
                self.assertIs(is_bar(spoilt(MARKED, way, other)), False)

    def test_many_things_in_one_another_are_counted_no_further_than_needed(self):
        item = rest()
        for _ in range(5):
            item = group(99, 1, *(item,) * 99)
        self.refuse(("bar", ONE, ((item,),)))


class Marks(unittest.TestCase):
    def test_by_places_then_voices_then_order(self):
        self.assertEqual(marks_of(MARKED), [
            (NOUGHT, ("call", "a")), (NOUGHT, ("lean", ONE, TWO, 3)),
            (HALF, ("call", "e")), (HALF, ("call", "g")),
            (ONE, ("call", "b")), (ONE, ("meet", "c")), (ONE, ("wait", "g", "x")), (ONE, ("call", "h")),
            (TWO, ("call", "d")), (TWO, ("pace", TWO)), (TWO, ("call", "f")), (TWO, ("meet", "i")),
        ])

    def test_places_stand_as_fractions_do(self):
        thirds = (rest((1, 3)), ("call", "c"), rest((2, 3)))
        halves = (rest((1, 2)), ("call", "b"), rest((1, 2)))
        tenths = (rest((3, 10)), ("call", "a"), rest((7, 10)))
        self.assertEqual(marks_of(("bar", ONE, (halves, thirds, tenths))), [
            ((3, 10), ("call", "a")), ((1, 3), ("call", "c")), ((1, 2), ("call", "b")),
        ])

    def test_none(self):
        self.assertEqual(marks_of(bar()), [])

    def test_the_askers_own(self):
        first = marks_of(MARKED)
        kept = list(first)
        first.reverse()
        first.append(None)
        self.assertEqual(marks_of(MARKED), kept)
        self.assertIs(type(kept), list)


class Voices(unittest.TestCase):
    def test_tones_and_rests_alone(self):
        self.assertEqual(voice_of(MARKED, 0), [(NOUGHT, rest()), (ONE, rest())])
        self.assertEqual(voice_of(MARKED, 1), [(NOUGHT, rest(TWO))])
        self.assertEqual(voice_of(MARKED, 2), [(NOUGHT, tone(60, HALF)), (HALF, rest(HALF)), (ONE, rest())])
        self.assertEqual(voice_of(MARKED, 3), [(NOUGHT, tone(60, HALF, True, False)), (HALF, rest(HALF)), (ONE, rest())])

    def test_a_voice_that_the_bar_lacks(self):
        for voice in [1, 2, 3]:
            self.assertEqual(voice_of(bar(), voice), [])
        self.assertEqual(voice_of(("bar", ONE, ((rest(),), (rest(),))), 2), [])
        self.assertEqual(len(voice_of(("bar", ONE, ((rest(),), (rest(),))), 1)), 1)

    def test_the_askers_own(self):
        for voice in range(4):
            first = voice_of(MARKED, voice)
            kept = list(first)
            first.clear()
            self.assertEqual(voice_of(MARKED, voice), kept)
        first = voice_of(bar(), 3)
        first.append(1)
        self.assertEqual(voice_of(bar(), 3), [])


if __name__ == "__main__":
    unittest.main()
