import unittest

from making import (
    HALF, NOUGHT, ONE, TWO, at_spot, bar, clock, ended, group, nested, nested_groups, nested_repeats, odd_things,
    one_part, part, plain_things, repeat, rest, rich_score, score, sign, spoilt, spots, tone, turn, use,
)

from manyclocks.errors import NoScore
from manyclocks.scores import checked

PACE = ("pace", ONE)
LETTERS = "abcdefghijklmnopqrstuvwxyz"


class Checked(unittest.TestCase):
    def refuse(self, *things):
        for thing in things:
            with self.assertRaises(NoScore, msg=repr(thing)[:300]) as caught:
                checked(thing)
            self.assertIs(type(caught.exception), NoScore)

    def take(self, *things):
        for thing in things:
            self.assertIsNone(checked(thing))


class Rights(Checked):
    def test_small_ones(self):
        self.take(score(part("a")), score(part("a"), part("b")), one_part(bar()), one_part(repeat(1)))
        self.take(score(part("a"), clocks=[clock("a")], phrases=[("a", ())]))

    def test_rich_one(self):
        self.take(rich_score())

    def test_unused_clocks_and_phrases_may_be_there(self):
        self.take(score(part("a"), clocks=[clock("b"), clock("c", "b")], phrases=[("p", (use("q"),)), ("q", ())]))

    def test_begins_and_places(self):
        self.take(score(part("a", begin=(7, 3), on="c"), clocks=[clock("c", None, (999998, 7))]))
        self.take(score(part("a"), clocks=[clock("c", None, NOUGHT, (NOUGHT, PACE), ((1, 3), PACE), (HALF, PACE))]))

    def test_nothing_handed_in_is_changed(self):
        handed = rich_score()
        checked(handed)
        self.assertEqual(handed, rich_score())
        told = [rich_score()]
        self.refuse(told)
        self.assertEqual(told, [rich_score()])


class Anything(Checked):
    def test_in_the_place_of_the_score(self):
        self.refuse(*odd_things())
        self.refuse(*plain_things())
        self.refuse(nested(60), ((), (), ()), (None, None, None), "abc")

    def test_in_the_place_of_any_thing_within(self):
        right = rich_score()
        for way in spots(right):
            for other in odd_things():
                self.refuse(spoilt(right, way, other))

    def test_lists_for_tuples(self):
        right = rich_score()
        for way in spots(right):
            inner = at_spot(right, way)
            if isinstance(inner, tuple):
                self.refuse(spoilt(right, way, list(inner)))

    def test_other_kinds_for_texts_and_numbers(self):
        right = rich_score()
        for way in spots(right):
            inner = at_spot(right, way)
            if isinstance(inner, str):
                for other in [inner.encode(), (inner,), inner + " ", inner.upper(), "", 7, True]:
                    self.refuse(spoilt(right, way, other))
            elif isinstance(inner, bool):
                for other in [int(inner), None, str(inner), ()]:
                    self.refuse(spoilt(right, way, other))
            elif isinstance(inner, int):
                for other in [True, False, None, str(inner), (inner,)]:
                    self.refuse(spoilt(right, way, other))
            elif inner is None:
                for other in [False, 0, "", "None", (), "from", "on", "time", "end", "nowhere"]:
                    self.refuse(spoilt(right, way, other))

    def test_tuples_with_a_thing_more_or_fewer(self):
        forms = [(), (0, 0), (0, 0, 3, 0), (1, 1), (2, 0), (2, 1), (2, 1, 3, 0), (2, 1, 3, 1), (2, 1, 3, 3),
                 (2, 1, 3, 4), (2, 1, 3, 5), (2, 1, 3, 1, 3, 0)]
        right = rich_score()
        for way in forms:
            inner = at_spot(right, way)
            self.refuse(spoilt(right, way, inner[:-1]), spoilt(right, way, inner[1:]))
            self.refuse(spoilt(right, way, inner + (None,)), spoilt(right, way, inner + ("a",)))
            self.refuse(spoilt(right, way, inner + ((),)), spoilt(right, way, ()))


class Wholes(Checked):
    def test_at_least_one_part(self):
        self.refuse(score(), score(clocks=[clock("a")], phrases=[("a", ())]))

    def test_sorted_by_names(self):
        self.refuse(score(part("b"), part("a")), score(part("a"), clocks=[clock("b"), clock("a")]))
        self.refuse(score(part("a"), phrases=[("b", ()), ("a", ())]))
        self.refuse(score(part("ab"), part("aa")), score(part("ab"), part("a")), score(part("a"), part("c"), part("b")))
        self.take(score(part("a"), part("aa"), part("ab"), part("b")))

    def test_unlike_names(self):
        self.refuse(score(part("a"), part("a")), score(part("a"), part("a", bar())))
        self.refuse(score(part("a"), clocks=[clock("b"), clock("b")]))
        self.refuse(score(part("a"), phrases=[("b", ()), ("b", (bar(),))]))

    def test_names(self):
        for name in ["", "abcdefghi", "from", "on", "time", "end", "A", "a1"]:
            self.refuse(score(part(name)), score(part("a"), clocks=[clock(name)]), score(part("a"), phrases=[(name, ())]))
        self.take(score(part("abcdefgh"), clocks=[clock("abcdefgh")], phrases=[("abcdefgh", ())]))

    def test_clocks_are_there(self):
        self.refuse(score(part("a", on="b")), score(part("a"), part("b", on="a")))
        self.refuse(score(part("a"), clocks=[clock("b", "c")]), score(part("a", on="p"), phrases=[("p", ())]))
        self.take(score(part("a", on="b"), clocks=[clock("b", "c"), clock("c")]))

    def test_phrases_are_there(self):
        self.refuse(one_part(use("p")), one_part(use("a")), score(part("a", use("c")), clocks=[clock("c")]))
        self.refuse(one_part(phrases={"p": (use("q"),)}), one_part(repeat(2, use("p"))))
        self.refuse(one_part(ended(1, (), ((1,), (use("p"),)))), one_part(phrases={"p": (repeat(2, repeat(2, use("q"))),)}))
        self.refuse(one_part(phrases={"p": (ended(1, (), ((1,), (use("q"),))),)}))

    def test_begins(self):
        for begin in [(-1, 1), (-1, 999), (2, 4), (0, 2), (1, 0), 0, 1, None, "0", (0,), (True, 1)]:
            self.refuse(score(part("a", begin=begin)), score(part("a"), clocks=[clock("c", None, begin)]))

    def test_marks_of_clocks(self):
        def with_marks(*marks):
            return score(part("a"), clocks=[clock("c", None, NOUGHT, *marks)])
        self.take(with_marks((NOUGHT, PACE), (ONE, ("lean", ONE, TWO, 1))), with_marks((TWO, ("pace", (1, 9)))))
        self.refuse(with_marks((ONE, PACE), (ONE, PACE)), with_marks((ONE, PACE), (HALF, PACE)))
        self.refuse(with_marks((HALF, PACE), ((1, 3), PACE)), with_marks(((-1, 2), PACE)), with_marks((1, PACE)))
        self.refuse(with_marks((ONE, PACE, ONE)), with_marks((ONE,)), with_marks(()), with_marks(PACE), with_marks(None))
        self.refuse(with_marks((PACE, ONE)), with_marks((ONE, ("call", "x"))), with_marks((ONE, ("meet", "x"))))
        self.refuse(with_marks((ONE, ("wait", "g", "x"))), with_marks((ONE, rest())), with_marks((ONE, tone())))
        self.refuse(with_marks((ONE, group(1, 1, PACE))), with_marks((ONE, ("pace", NOUGHT))))
        self.refuse(with_marks((ONE, ("pace", (-1, 1)))), with_marks((ONE, ("lean", ONE, ONE, 0))))
        self.refuse(with_marks((ONE, ("lean", ONE, ONE, 100))), with_marks((ONE, ("lean", ONE, NOUGHT, 3))))


class Rings(Checked):
    def test_clocks(self):
        self.refuse(score(part("a"), clocks=[clock("a", "a")]))
        self.refuse(score(part("a"), clocks=[clock("a", "b"), clock("b", "a")]))
        self.refuse(score(part("a", on="c"), clocks=[clock("a", "b"), clock("b", "a"), clock("c", "a")]))
        for many in [3, 12]:
            names = LETTERS[:many]
            ring = [clock(name, names[number - 1]) for number, name in enumerate(names)]
            self.refuse(score(part("a"), clocks=ring))
            self.refuse(score(part("a", on="a"), clocks=ring + [clock("z")]))
            self.take(score(part("a"), clocks=[clock("a")] + ring[1:]))

    def test_phrases(self):
        self.refuse(one_part(phrases={"p": (use("p"),)}), one_part(phrases={"p": (use("q"),), "q": (use("p"),)}))
        self.refuse(one_part(use("p"), phrases={"p": (bar(), use("p"))}))
        for many in [3, 12]:
            names = LETTERS[:many]
            ring = {name: (use(names[number - 1]), bar()) for number, name in enumerate(names)}
            self.refuse(one_part(phrases=ring), one_part(use("b"), phrases=ring))
            self.take(one_part(use("b"), phrases={**ring, "a": ()}))

    def test_through_repeats_and_endings(self):
        def around(thing):
            return [(repeat(2, thing),), (ended(1, (), ((1,), (thing,))),), (repeat(1, bar(), repeat(2, bar(), thing)),),
                    (ended(2, (bar(),), ((2,), ()), ((1,), (bar(), repeat(3, thing)))),)]
        for things in around(use("p")):
            self.refuse(one_part(phrases={"p": things}), one_part(phrases={"p": (use("q"),), "q": things}))
            self.refuse(one_part(phrases={"p": things, "q": ()}))
            self.take(one_part(phrases={"p": (bar(),), "q": things}))
        for things in around(use("q")):
            self.refuse(one_part(phrases={"p": things, "q": (use("p"),)}))
            self.take(one_part(phrases={"p": things, "q": ()}))

    def test_each_is_gone_into_once(self):
        phrases = {"a": (bar(),)}
        for number in range(1, 12):
            phrases[LETTERS[number]] = (use(LETTERS[number - 1]),) * 60
        self.take(one_part(*[use("l")] * 60, phrases=phrases))
        self.refuse(one_part(phrases={**phrases, "a": (use("l"),)}))

    def test_more_than_one_way_is_no_ring(self):
        self.take(one_part(use("p"), use("p"), phrases={"p": (use("q"), use("r"), use("q")), "q": (use("r"),), "r": ()}))


class Things(Checked):
    def refuse_thing(self, *things):
        for thing in things:
            self.refuse(one_part(thing), one_part(bar(), thing), one_part(repeat(1, thing)))
            self.refuse(one_part(ended(1, (), ((1,), (thing,)))), one_part(phrases={"p": (thing,)}))

    def take_thing(self, *things, phrases=()):
        for thing in things:
            self.take(one_part(thing, phrases=phrases), one_part(repeat(1, thing), phrases=phrases))

    def test_no_things(self):
        self.refuse_thing(None, (), "bar", rest(), tone(), ("call", "x"), ("rest",), ("end",), (sign("s"),), 1)

    def test_bars(self):
        self.refuse_thing(("bar", ONE, ()), ("bar", ONE, ((rest(HALF),),)), ("bar", TWO, ((rest(),),)))
        row = (rest(),) + (("call", "x"),) * 39
        self.take_thing(("bar", ONE, (row,) * 4), ("bar", ONE, ((nested_groups(6),),)))
        self.refuse_thing(("bar", ONE, (row,) * 5), ("bar", ONE, (row + (("call", "x"),),)))
        self.refuse_thing(("bar", ONE, ((nested_groups(7),),)))

    def test_signs(self):
        self.take_thing(sign("s"), sign("abcdefgh"))
        for name in ["", "abcdefghi", "from", "on", "time", "end", "S", None, 1, ("s",)]:
            self.refuse_thing(sign(name))
        self.refuse_thing(("sign",), ("sign", "s", "t"), ("sign", "s", None))

    def test_turns(self):
        self.take_thing(turn(None), turn(*(None,) * 9))
        self.refuse_thing(turn(), turn(*(None,) * 10), ("turn", None), ("turn",), ("turn", (None,), ()), ("turn", [None]))
        self.refuse_thing(turn("s"), turn(None, "s"), turn(0), turn(False), turn(()), ("turn", "s"))
        self.take(one_part(sign("s"), turn(*("s",) * 9)))
        self.refuse(one_part(sign("s"), turn(*("s",) * 10)))

    def test_uses(self):
        there = {"p": ()}
        self.take_thing(use("p"), use("p", -99, (1, 7)), use("p", 999999, (999999, 1)), phrases=there)
        for spoil in [use("p", True), use("p", None), use("p", (1, 1)), use("p", "1"), use("p", 0, NOUGHT),
                      use("p", 0, (-1, 1)), use("p", 0, (2, 2)), use("p", 0, 1), use("p", 0, None), use("p")[:3],
                      use("p") + (1,), use("P"), use(None), use("end"), use(1), use(("p",))]:
            self.refuse(one_part(spoil, phrases=there), one_part(repeat(1, spoil), phrases=there))

    def test_repeats(self):
        self.take_thing(repeat(1), repeat(9), repeat(2, bar()), repeat(2, repeat(2), repeat(3)))
        self.refuse_thing(repeat(0), repeat(10), repeat(-1), repeat(True), repeat(None), repeat("2"), repeat(ONE))
        self.refuse_thing(("repeat", 2, ()), ("repeat", 2, (), (), ()), ("repeat", 2, None, ()), ("repeat", 2, (), None))
        self.refuse_thing(("repeat", 2, bar(), ()), ("repeat", 2, [], ()), ("repeat", 2, (), []), repeat(2, None))

    def test_endings(self):
        self.take_thing(ended(1, (), ((1,), ())), ended(3, (), ((1, 2, 3), ())), ended(3, (bar(),), ((2,), ()), ((1, 3), (bar(),))))
        self.take_thing(ended(9, (), *[((number,), (bar(),)) for number in (3, 1, 2, 9, 8, 7, 4, 5, 6)]))
        one = ((1,), ())
        self.refuse_thing(
            ended(2, (), one), ended(2, (), ((2,), ())), ended(2, (), one, ((1, 2), ())), ended(2, (), one, one, ((2,), ())),
            ended(2, (), ((1, 2), ()), ((), ())), ended(1, (), ((), ())), ended(2, (), ((2, 1), ())), ended(2, (), ((1, 1, 2), ())),
            ended(2, (), ((1, 2, 3), ())), ended(2, (), ((0, 1, 2), ())), ended(2, (), ((1, 3), ())), ended(3, (), ((1, 3), ())),
            ended(1, (), ((True,), ())), ended(2, (), ((1, None), ())), ended(2, (), (1, ()), (2, ())),
            ended(1, (), ([1], ())), ended(1, (), ((1,), [])), ended(1, (), ((1,),)), ended(1, (), ((1,), (), ())),
            ended(1, (), [(1,), ()]), ended(1, (), ()), ended(1, (), None), ended(1, (), ((1,), None)),
            ended(1, (), ((1,), bar())), ended(1, (), ((1,), (None,))), ended(1, (), ((1,), (turn("s"),))),
        )

    def test_sixty_things_in_each_row(self):
        sixty = (bar(),) * 60
        over = sixty + (bar(),)
        self.take(one_part(*sixty), one_part(phrases={"p": sixty}), one_part(("repeat", 2, sixty, ())))
        self.take(one_part(ended(2, sixty, ((1,), sixty), ((2,), sixty)), *sixty[1:]))
        self.refuse(one_part(*over), one_part(phrases={"p": over}), one_part(("repeat", 2, over, ())))
        self.refuse(one_part(ended(1, (), ((1,), over))), one_part(ended(2, sixty, ((1,), sixty), ((2,), over))))
        self.refuse(one_part(phrases={"p": (repeat(1, ("repeat", 1, over, ())),)}))

    def test_repeats_six_deep(self):
        self.take(one_part(nested_repeats(6)), one_part(phrases={"p": (nested_repeats(6), nested_repeats(6))}))
        self.refuse(one_part(nested_repeats(7)), one_part(phrases={"p": (nested_repeats(7),)}), one_part(nested_repeats(14)))

        def by_endings(deep):
            told = bar()
            for _ in range(deep):
                told = ended(2, (), ((1,), ()), ((2,), (told,)))
            return told
        self.take(one_part(by_endings(6)))
        self.refuse(one_part(by_endings(7)))
        self.take(one_part(nested_repeats(6), use("p"), phrases={"p": (nested_repeats(6),)}))
        self.take(one_part(repeat(1, repeat(1, use("p"))), phrases={"p": (nested_repeats(6),)}))


class Signs(Checked):
    def test_unlike_in_one_part(self):
        self.refuse(one_part(sign("s"), sign("s")), one_part(sign("s"), bar(), repeat(1, sign("s"))))
        self.refuse(one_part(repeat(1, sign("s")), repeat(1, sign("s"))))
        self.refuse(one_part(ended(2, (sign("s"),), ((1,), ()), ((2,), (sign("s"),)))))
        self.refuse(one_part(ended(2, (), ((1,), (sign("s"),)), ((2,), (sign("s"),)))))
        self.refuse(one_part(repeat(1, repeat(1, sign("s"))), sign("s")))
        self.take(one_part(sign("s"), sign("t"), repeat(1, sign("u"))))

    def test_unlike_in_one_phrase(self):
        self.refuse(one_part(phrases={"p": (sign("s"), sign("s"))}), one_part(phrases={"p": (sign("s"), repeat(2, sign("s")))}))

    def test_alike_in_others(self):
        self.take(score(part("a", sign("s")), part("b", sign("s")), phrases=[("p", (sign("s"),)), ("q", (sign("s"),))]))
        self.take(one_part(sign("s"), use("p"), use("p"), phrases={"p": (sign("s"), turn("s", None))}))

    def test_turns_name_signs_of_their_own_row(self):
        self.refuse(one_part(turn("s")), one_part(sign("s"), turn("t")), one_part(sign("s"), repeat(1, turn(None, "t"))))
        self.refuse(score(part("a", sign("s")), part("b", turn("s"))))
        self.refuse(one_part(turn("s"), use("p"), phrases={"p": (sign("s"),)}))
        self.refuse(one_part(sign("s"), use("p"), phrases={"p": (turn("s"),)}))
        self.refuse(one_part(phrases={"p": (turn("s"),), "q": (sign("s"),)}))
        self.refuse(one_part(ended(1, (), ((1,), (turn("s"),)))), one_part(phrases={"p": (repeat(2, turn("s")),)}))

    def test_turns_into_and_out_of_repeats(self):
        self.take(one_part(turn("s"), repeat(2, repeat(2, sign("s")))), one_part(sign("s"), repeat(2, turn("s"))))
        self.take(one_part(ended(2, (turn("t"),), ((1,), (sign("s"),)), ((2,), (turn("s"), sign("t"))))))
        self.take(one_part(turn("s", None, "s"), sign("s")))


if __name__ == "__main__":
    unittest.main()
