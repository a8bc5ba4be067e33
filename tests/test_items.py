import unittest

from making import (
    HALF, NOUGHT, ONE, TWO, at_spot, group, nested, nested_groups, odd_things, plain_things, rest, spoilt, spots, tone,
)

from manyclocks.items import is_item, is_name, laid, length_of

RIGHT = [
    tone(), tone((60, 64, 67), HALF, True, False), tone(-5), tone((-3, 0, 1, 2, 3, 4)), tone(0, (7, 3), False, True),
    rest(), rest((1, 6)), rest((999999, 1)),
    group(3, 2, rest(), tone(), rest()), group(1, 1, rest()), group(99, 99, ("call", "x")),
    group(2, 3, ("meet", "x"), ("wait", "g", "x")), group(3, 2, group(5, 4, rest(), ("pace", ONE)), tone()),
    ("call", "x"), ("call", "abcdefgh"), ("wait", "g", "x"), ("wait", "x", "x"), ("meet", "x"),
    ("pace", ONE), ("pace", (1, 3)), ("lean", ONE, TWO, 4), ("lean", TWO, ONE, 1), ("lean", ONE, ONE, 99),
]


class Names(unittest.TestCase):
    def test_right_ones(self):
        for name in ["a", "z", "abcdefgh", "zzzzzzzz", "fro", "froma", "afrom", "onn", "con", "times", "ends", "bend",
                     "o", "tim", "en", "fromon"]:
            self.assertIs(is_name(name), True, name)

    def test_wrong_ones(self):
        for name in ["", "abcdefghi", "from", "on", "time", "end", "A", "aB", "a1", "1", "a b", " ", "a ", "a-b", "a_b",
                     "\u00e4", "a\n", "\n", "{", "`", "\u0131", "\u017f", "\uff41", "a\x00", "\ud800"]:
            self.assertIs(is_name(name), False, repr(name))

    def test_of_anything(self):
        for thing in odd_things() + [nested(60), ("a",), 1, None, True, b"a", ["a"]]:
            self.assertIs(is_name(thing), False)


class Items(unittest.TestCase):
    def refuse(self, *things):
        for thing in things:
            self.assertIs(is_item(thing), False, thing)

    def test_right_ones(self):
        for item in RIGHT:
            self.assertIs(is_item(item), True, item)

    def test_a_thing_more_or_fewer(self):
        for item in RIGHT:
            self.refuse(item + (1,), item + (None,), item + (item[-1],), item[:-1], item[1:], item[:1])

    def test_other_words(self):
        for item in RIGHT:
            for word in ["", "ton", "Tone", "tones", "bar", "sign", "x", "call ", "repeat", b"tone", None, 1, ("tone",)]:
                self.refuse((word, *item[1:]))
        self.refuse(("rest", "x"), ("call", ONE), ("pace", "x"), ("wait", ONE), ("tone", ONE), ("group", ONE))
        self.refuse(("lean", 3, 2, (rest(),)), ("group", ONE, TWO, 4))

    def test_lists_for_tuples(self):
        for item in RIGHT:
            for way in spots(item):
                inner = at_spot(item, way)
                if isinstance(inner, tuple):
                    self.refuse(spoilt(item, way, list(inner)))

    def test_truths_for_numbers_and_other_things_for_truths(self):
        for item in RIGHT:
            for way in spots(item):
                inner = at_spot(item, way)
                if isinstance(inner, bool):
                    for other in [0, 1, None, "True", (), "", (True,)]:
                        self.refuse(spoilt(item, way, other))
                elif isinstance(inner, int):
                    for other in [True, False, None, "1", (1,), (1, 1)]:
                        self.refuse(spoilt(item, way, other))

    def test_of_anything_at_each_place(self):
        for item in RIGHT:
            for way in spots(item):
                for other in odd_things():
                    self.assertIs(is_item(spoilt(item, way, other)), False)

    def test_of_anything(self):
        for thing in plain_things():
            self.refuse(thing)

    def test_pitches(self):
        self.assertIs(is_item(tone((1, 2, 3, 4, 5, 6))), True)
        for pitches in [(), (1, 2, 3, 4, 5, 6, 7), (1, 1), (2, 1), (1, 3, 2), (1, 2, 2), ("a",), (None,), ((1,),),
                        (True,), (1, True), (False, 1)]:
            self.refuse(tone(pitches))
        self.refuse(("tone", 60, ONE, False, False), ("tone", "60", ONE, False, False))

    def test_lengths(self):
        for length in [NOUGHT, (-1, 1), (-1, 2), (2, 4), (2, 2), (1, 0), (1, -1), (-1, -1), 1, "1", None, (True, 1),
                       (1, True), (1,), (1, 1, 1)]:
            self.refuse(tone(60, length), rest(length), ("pace", length))
            self.refuse(("lean", length, ONE, 2), ("lean", ONE, length, 2), group(3, 2, rest(length)))

    def test_numbers_from_1_to_99(self):
        for number in [0, 100, -1, 10 ** 9, True, None, "3", ONE]:
            self.refuse(group(number, 2, rest()), group(2, number, rest()), ("lean", ONE, TWO, number))
        for number in [1, 2, 98, 99]:
            for item in [group(number, 2, rest()), group(2, number, rest()), ("lean", ONE, TWO, number)]:
                self.assertIs(is_item(item), True)

    def test_names_in_marks(self):
        for name in ["", "abcdefghi", "from", "on", "time", "end", "A", "x1", None, 1, ("x",), b"x"]:
            self.refuse(("call", name), ("meet", name), ("wait", name, "x"), ("wait", "g", name))

    def test_groups(self):
        self.refuse(group(3, 2), ("group", 3, 2, [rest()]), ("group", 3, 2, rest()), ("group", 3, 2, None))
        self.refuse(group(3, 2, None), group(3, 2, rest(), ()), group(3, 2, rest(), ("sign", "x"), rest()))
        self.refuse(("group", 3, 2, "rest"), group(3, 2, "call"), group(3, 2, rest(), rest(NOUGHT)))

    def test_groups_six_and_seven_deep(self):
        for deep in range(7):
            self.assertIs(is_item(nested_groups(deep)), True, deep)
        for deep in [7, 8, 59]:
            self.refuse(nested_groups(deep))
        self.refuse(group(1, 1, rest(), nested_groups(6), rest()))
        self.assertIs(is_item(group(1, 1, nested_groups(5), rest(), nested_groups(5))), True)

    def test_many_things_in_one_another_are_looked_at_no_deeper_than_needed(self):
        thing = rest()
        for _ in range(55):
            thing = group(1, 1, thing, thing)
        self.refuse(thing)


class Rows(unittest.TestCase):
    def test_no_items(self):
        self.assertEqual(laid(()), [])
        self.assertEqual(length_of(()), (0, 1))

    def test_plain_row(self):
        row = (("call", "x"), tone(60, HALF), ("pace", TWO), rest((1, 3)), ("meet", "m"), ("call", "y"), tone(62, TWO))
        self.assertEqual(laid(row), [
            ((0, 1), ("call", "x")), ((0, 1), tone(60, HALF)), ((1, 2), ("pace", TWO)), ((1, 2), rest((1, 3))),
            ((5, 6), ("meet", "m")), ((5, 6), ("call", "y")), ((5, 6), tone(62, TWO)),
        ])
        self.assertEqual(length_of(row), (17, 6))

    def test_groups_in_groups(self):
        inner = group(5, 4, tone((60, 64), HALF, True, False), ("lean", ONE, TWO, 3), rest(HALF))
        row = (rest(), group(3, 2, tone(60, HALF, False, True), inner, ("wait", "g", "x"), rest(HALF)), ("call", "z"), tone())
        self.assertEqual(laid(row), [
            ((0, 1), rest()),
            ((1, 1), tone(60, (1, 3), False, True)),
            ((4, 3), tone((60, 64), (4, 15), True, False)),
            ((8, 5), ("lean", ONE, TWO, 3)),
            ((8, 5), rest((4, 15))),
            ((28, 15), ("wait", "g", "x")),
            ((28, 15), rest((1, 3))),
            ((11, 5), ("call", "z")),
            ((11, 5), tone()),
        ])
        self.assertEqual(length_of(row), (16, 5))

    def test_groups_of_marks_alone(self):
        row = (rest(HALF), group(3, 2, ("call", "x"), group(7, 5, ("pace", (1, 3)))), ("meet", "m"), rest())
        self.assertEqual(laid(row), [
            ((0, 1), rest(HALF)), ((1, 2), ("call", "x")), ((1, 2), ("pace", (1, 3))), ((1, 2), ("meet", "m")),
            ((1, 2), rest()),
        ])
        self.assertEqual(length_of(row), (3, 2))
        self.assertEqual(length_of((group(3, 2, ("call", "x")),)), (0, 1))

    def test_six_groups_around(self):
        item = tone(60, ONE)
        for number in range(1, 7):
            item = group(number + 1, number, item)
        self.assertEqual(laid((item, item)), [((0, 1), tone(60, (1, 7))), ((1, 7), tone(60, (1, 7)))])
        self.assertEqual(length_of((item, item)), (2, 7))

    def test_pitches_stay(self):
        self.assertEqual(laid((tone((-5, 7, 99)),)), [((0, 1), tone((-5, 7, 99)))])

    def test_what_is_told_is_the_askers_own(self):
        row = (group(3, 2, rest(), rest(), rest()), ("call", "x"))
        first = laid(row)
        kept = list(first)
        first.clear()
        first.append("else")
        self.assertEqual(laid(row), kept)
        self.assertIs(type(laid(row)), list)
        self.assertIsNot(laid(()), laid(()))
        self.assertEqual(row, (group(3, 2, rest(), rest(), rest()), ("call", "x")))


if __name__ == "__main__":
    unittest.main()
