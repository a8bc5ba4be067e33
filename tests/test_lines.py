import unittest

from making import (
    HALF, ONE, TWO, bar, ended, group, nested_repeats, one_part, part, repeat, rest, rich_score, score, sign, tone,
    turn, use,
)

from manyclocks.errors import TooLong
from manyclocks.lines import line
from manyclocks.scores import checked

LETTERS = "abcdefghijkl"


def short(told):
    """A line with the first pitch of each bar, and its way, for the bar; goals for a turn."""
    rows = []
    for entry in told:
        if entry[0] == "bar":
            rows.append((entry[1][2][0][0][1][0], entry[2]))
        else:
            rows.append(list(entry[1]))
    return rows


class Lines(unittest.TestCase):
    def told(self, *things, phrases=()):
        handed = one_part(*things, phrases=phrases)
        checked(handed)
        return short(line(handed, "a"))

    def refused(self, handed, name="a"):
        checked(handed)
        with self.assertRaises(TooLong) as caught:
            line(handed, name)
        self.assertIs(type(caught.exception), TooLong)


class Plain(Lines):
    def test_nothing(self):
        self.assertEqual(line(one_part(), "a"), [])
        self.assertEqual(self.told(sign("s")), [])

    def test_bars_with_their_ways(self):
        told = line(one_part(bar(60), bar(61, HALF)), "a")
        self.assertEqual(told, [("bar", bar(60), (0,)), ("bar", bar(61, HALF), (1,))])
        self.assertEqual({type(entry) for entry in told}, {tuple})

    def test_of_the_part_named(self):
        handed = score(part("a", bar(1)), part("b", turn(None)), part("c", bar(2), bar(3)))
        self.assertEqual(short(line(handed, "a")), [(1, (0,))])
        self.assertEqual(line(handed, "b"), [("turn", (1,))])
        self.assertEqual(short(line(handed, "c")), [(2, (0,)), (3, (1,))])

    def test_signs_and_turns(self):
        self.assertEqual(
            self.told(turn("t", None, "s", "e"), bar(1), sign("s"), sign("t"), bar(2), turn("s", "t", None), sign("e")),
            [[2, 1, 2, 4], (1, (1,)), (2, (4,)), [2, 2, 4]],
        )

    def test_a_sign_at_the_end_is_the_lines_length(self):
        self.assertEqual(self.told(turn("e"), bar(1), sign("e")), [[2], (1, (1,))])
        self.assertEqual(self.told(sign("s"), turn("s", None)), [[0, 1]])

    def test_goals_are_tuples(self):
        self.assertEqual(line(one_part(turn(None, None)), "a"), [("turn", (1, 1))])


class Repeats(Lines):
    def test_without_endings(self):
        self.assertEqual(self.told(bar(1), repeat(3, bar(2), bar(3)), bar(4)),
                         [(1, (0,)), (2, (1, 0)), (3, (1, 1)), [1, 1, 4], (4, (2,))])
        self.assertEqual(self.told(repeat(1, bar(1))), [(1, (0, 0)), [2]])

    def test_of_nothing(self):
        self.assertEqual(self.told(repeat(3)), [[0, 0, 1]])
        self.assertEqual(self.told(repeat(1), repeat(2)), [[1], [1, 2]])
        self.assertEqual(self.told(ended(2, (), ((2,), ()), ((1,), ()))), [[2, 1], [3], [0]])

    def test_in_one_another(self):
        self.assertEqual(self.told(repeat(2, bar(1), repeat(3, bar(2)), bar(3))),
                         [(1, (0, 0)), (2, (0, 1, 0)), [1, 1, 3], (3, (0, 2)), [0, 5]])

    def test_endings(self):
        self.assertEqual(
            self.told(bar(9), ended(3, (bar(1), bar(2)), ((1, 3), (bar(3),)), ((2,), (bar(4), bar(5)))), bar(8)),
            [(9, (0,)), (1, (1, 0)), (2, (1, 1)), [4, 6, 4], (3, (1, 2)), [1, 9], (4, (1, 3)), (5, (1, 4)), [1], (8, (2,))],
        )

    def test_endings_in_any_order(self):
        self.assertEqual(
            self.told(ended(4, (bar(1),), ((4,), (bar(2),)), ((1, 3), ()), ((2,), (bar(3),)))),
            [(1, (0, 0)), [4, 5, 4, 2], (2, (0, 1)), [7], [0, 0], (3, (0, 2)), [0]],
        )

    def test_one_ending_for_all(self):
        self.assertEqual(self.told(ended(3, (bar(1),), ((1, 2, 3), (bar(2),)))), [(1, (0, 0)), [2, 2, 2], (2, (0, 1)), [0, 0, 4]])

    def test_in_endings(self):
        self.assertEqual(
            self.told(ended(2, (bar(1),), ((1,), (repeat(2, bar(2)), bar(3))), ((2,), (bar(4), repeat(1, bar(5)))))),
            [(1, (0, 0)), [2, 6], (2, (0, 1, 0)), [2, 4], (3, (0, 2)), [0], (4, (0, 3)), (5, (0, 4, 0)), [9], [10]],
        )

    def test_turns_out_of_repeats_and_into_them(self):
        self.assertEqual(
            self.told(turn("i", "j"), repeat(2, bar(1), sign("i"), bar(2), turn("o", None)), sign("o"),
                      ended(1, (), ((1,), (bar(3), sign("j"), bar(4))))),
            [[2, 7], (1, (1, 0)), (2, (1, 2)), [5, 4], [1, 5], [6], (3, (3, 0)), (4, (3, 2)), [9]],
        )

    def test_signs_are_numbered_among_the_things(self):
        self.assertEqual(self.told(sign("s"), repeat(1, sign("t"), bar(1), turn("s", "t"), bar(2))),
                         [(1, (1, 1)), [0, 0], (2, (1, 3)), [4]])

    def test_six_deep(self):
        self.assertEqual(self.told(nested_repeats(6)), [(60, (0,) * 7), [2], [3], [4], [5], [6], [7]])


class Uses(Lines):
    def test_pitches_lengths_and_sizes(self):
        voices = (
            (tone((60, 64), HALF, True, False), group(3, 2, tone(-1, HALF, False, True), group(5, 3, rest(), ("pace", TWO)),
             rest((3, 20))), ("lean", ONE, TWO, 7), rest((1, 6))),
            (("wait", "g", "x"), rest((3, 2)), ("call", "x"), ("meet", "m")),
        )
        moved = (
            (tone((53, 57), (3, 4), True, False), group(3, 2, tone(-8, (3, 4), False, True), group(5, 3, rest((3, 2)), ("pace", TWO)),
             rest((9, 40))), ("lean", ONE, TWO, 7), rest((1, 4))),
            (("wait", "g", "x"), rest((9, 4)), ("call", "x"), ("meet", "m")),
        )
        handed = one_part(use("p", -7, (3, 2)), phrases={"p": (("bar", (3, 2), voices),)})
        checked(handed)
        self.assertEqual(line(handed, "a"), [("bar", ("bar", (9, 4), moved), (0, 0))])

    def test_as_it_is(self):
        self.assertEqual(line(one_part(use("p"), phrases={"p": (bar(7, HALF),)}), "a"), [("bar", bar(7, HALF), (0, 0))])

    def test_within_uses(self):
        phrases = {"p": (bar(0), use("q", 10, (2, 3)), bar(1)), "q": (bar(2), use("r", -1, (1, 7))), "r": (bar(3),)}
        handed = one_part(bar(9), use("p", 100, HALF), use("q", 5), phrases=phrases)
        checked(handed)
        self.assertEqual(line(handed, "a"), [
            ("bar", bar(9), (0,)), ("bar", bar(100, HALF), (1, 0)), ("bar", bar(112, (1, 3)), (1, 1, 0)),
            ("bar", bar(112, (1, 21)), (1, 1, 1, 0)), ("bar", bar(101, HALF), (1, 2)),
            ("bar", bar(7), (2, 0)), ("bar", bar(7, (1, 7)), (2, 1, 0)),
        ])

    def test_signs_are_its_own_with_each_use(self):
        phrases = {"p": (turn("e", "s"), sign("s"), bar(1), turn("s", None), sign("e"), bar(2)), "q": (sign("s"), use("p"), turn("s"))}
        self.assertEqual(
            self.told(sign("s"), use("p"), sign("e"), use("q"), turn("s", "e"), phrases=phrases),
            [[3, 1], (1, (1, 2)), [1, 3], (2, (1, 5)), [7, 5], (1, (3, 1, 2)), [5, 7], (2, (3, 1, 5)), [4], [0, 4]],
        )

    def test_in_repeats_and_repeats_in_them(self):
        phrases = {"p": (ended(2, (bar(1),), ((1,), (bar(2),)), ((2,), (bar(3),))), repeat(2, bar(4)))}
        self.assertEqual(
            self.told(repeat(2, bar(0), ended(1, (use("p", 10),), ((1,), (use("p", 20),)))), phrases=phrases),
            [(0, (0, 0)), (11, (0, 1, 0, 0, 0)), [3, 5], (12, (0, 1, 0, 0, 1)), [1], (13, (0, 1, 0, 0, 2)), [7],
             (14, (0, 1, 0, 1, 0)), [7, 9], [10], (21, (0, 1, 1, 0, 0)), [12, 14], (22, (0, 1, 1, 0, 1)), [10],
             (23, (0, 1, 1, 0, 2)), [16], (24, (0, 1, 1, 1, 0)), [16, 18], [19], [0, 20]],
        )

    def test_of_nothing(self):
        self.assertEqual(self.told(use("p"), turn("s"), use("p"), sign("s"), phrases={"p": ()}), [[1]])


class Bounds(Lines):
    def test_entries(self):
        fifty = {"t": (bar(),) * 49 + (turn(None),)}
        full = one_part(*(use("t"),) * 40, phrases=fifty)
        self.assertEqual(len(line(full, "a")), 2000)
        self.assertEqual(line(full, "a")[-1], ("turn", (2000,)))
        self.refused(one_part(*(use("t"),) * 40, bar(), phrases=fifty))
        self.refused(one_part(*(use("t"),) * 40, turn(None), phrases=fifty))
        self.refused(one_part(repeat(1, *(use("t"),) * 40), phrases=fifty))
        self.refused(one_part(ended(1, (use("t"),) * 39, ((1,), (use("t"),))), phrases=fifty))
        told = line(one_part(turn("e"), *(use("t"),) * 39, *(bar(),) * 19, use("u"), sign("e"),
                             phrases={**fifty, "u": (repeat(1, *(bar(),) * 29),)}), "a")
        self.assertEqual((len(told), told[0]), (2000, ("turn", (2000,))))

    def test_no_matter_what_is_walked(self):
        fifty = {"t": (bar(),) * 50}
        self.refused(one_part(turn("e"), *(use("t"),) * 40, sign("e"), phrases=fifty))

    def test_uses(self):
        phrases = {"e": (), "f": (use("e"),) * 50}
        self.assertEqual(line(one_part(*(use("f"),) * 39, *(use("e"),) * 11, phrases=phrases), "a"), [])
        self.refused(one_part(*(use("f"),) * 39, *(use("e"),) * 12, phrases=phrases))
        self.assertEqual(len(line(one_part(*(use("f"),) * 39, repeat(9, *(use("e"),) * 11), phrases=phrases), "a")), 1)
        self.refused(one_part(*(use("f"),) * 39, ended(1, (use("e"),) * 6, ((1,), (use("e"),) * 6)), phrases=phrases))
        signs = {"e": (sign("s"),), "f": (sign("s"),) + (use("e"),) * 49}
        self.assertEqual(line(one_part(*(use("f"),) * 40, phrases=signs), "a"), [])
        self.refused(one_part(*(use("f"),) * 40, use("e"), phrases=signs))

    def test_twelve_deep_sixty_times_each(self):
        for first in [(bar(),), ()]:
            phrases = {"a": first}
            for number in range(1, 12):
                phrases[LETTERS[number]] = (use(LETTERS[number - 1]),) * 60
            rows = sorted(phrases.items())
            handed = score(part("long", use("l")), part("short", use("a"), bar(7)), part("wide", use("b")), phrases=rows)
            self.refused(handed, "long")
            self.assertEqual(short(line(handed, "short"))[-1], (7, (1,)))
            self.assertEqual(len(line(handed, "wide")), 60 * len(first))

    def test_twelve_deep_is_told(self):
        phrases = {"a": (bar(0),)}
        for number in range(1, 12):
            inner = use(LETTERS[number - 1], 1, TWO)
            for _ in range(6):
                inner = ended(1, (), ((1,), (inner,)))
            phrases[LETTERS[number]] = (inner,)
        told = line(one_part(use("l"), phrases=phrases), "a")
        self.assertEqual(told[66], ("bar", bar(11, (2 ** 11, 1)), (0,) * 79))
        self.assertEqual(len(told), 133)

    def test_repeats_sixty_times_six_deep(self):
        thing = bar()
        for _ in range(6):
            thing = repeat(1, *(thing,) * 60)
        with self.assertRaises(TooLong):
            line(one_part(thing), "a")


class Own(Lines):
    def test_told_anew(self):
        handed = rich_score()
        first = line(handed, "flute")
        kept = list(first)
        first.clear()
        self.assertEqual(line(handed, "flute"), kept)
        self.assertIs(type(kept), list)
        self.assertEqual(handed, rich_score())


if __name__ == "__main__":
    unittest.main()
