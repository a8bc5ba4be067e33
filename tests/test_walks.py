import random
import unittest

from making import bar, ended, one_part, part, repeat, rich_score, score, sign, turn, use

from manyclocks.errors import TooLong
from manyclocks.lines import line
from manyclocks.scores import checked
from manyclocks.walks import unfolded, walk

# Repeats of nothing in one another, whose turns are come to 3735 and 265 times, together 4000 times.
MOST = repeat(9, repeat(9, repeat(9, repeat(4))))
REST = repeat(5, repeat(4, repeat(3, repeat(3))))


def ways(handed, name="a"):
    entries = line(handed, name)
    return [entries[place][2] for place in walk(handed, name)]


def plain_row(phrases, things, way, first):
    """The plain unfolding, said once more: one bar's way after the other."""
    for number, thing in enumerate(things, start=first):
        here = way + (number,)
        if thing[0] == "bar":
            yield here
        elif thing[0] == "use":
            yield from plain_row(phrases, phrases[thing[1]], here, 0)
        else:
            for time in range(1, thing[1] + 1):
                yield from plain_row(phrases, thing[2], here, 0)
                begin = len(thing[2])
                for numbers, inner in thing[3]:
                    if time in numbers:
                        yield from plain_row(phrases, inner, here, begin)
                    begin += len(inner)


def some_things(chance, names, deep):
    """A row of bars, uses and repeats, drawn by chance."""
    told = []
    for _ in range(chance.randrange(4)):
        sort = chance.randrange(4 if deep else 2)
        if sort == 0 or (sort == 1 and not names):
            told.append(bar(chance.randrange(9)))
        elif sort == 1:
            told.append(use(chance.choice(names), chance.randrange(-3, 4)))
        else:
            told.append(some_repeat(chance, names, deep))
    return tuple(told)


def some_repeat(chance, names, deep):
    many = chance.randrange(1, 5)
    things = some_things(chance, names, deep - 1)
    if chance.randrange(2):
        return ("repeat", many, things, ())
    rows = {}
    for number in range(1, many + 1):
        rows.setdefault(chance.randrange(many), []).append(number)
    endings = [(tuple(numbers), some_things(chance, names, deep - 1)) for numbers in rows.values()]
    chance.shuffle(endings)
    return ("repeat", many, things, tuple(endings))


class Walks(unittest.TestCase):
    def walked(self, *things, phrases=()):
        handed = one_part(*things, phrases=phrases)
        checked(handed)
        return walk(handed, "a")

    def refused(self, *things, phrases=(), plain=True):
        handed = one_part(*things, phrases=phrases)
        checked(handed)
        for tell in [walk, unfolded] if plain else [walk]:
            with self.assertRaises(TooLong) as caught:
                tell(handed, "a")
            self.assertIs(type(caught.exception), TooLong)


class Turns(Walks):
    def test_nothing(self):
        self.assertEqual(self.walked(), [])
        self.assertEqual(self.walked(sign("s")), [])
        self.assertEqual(self.walked(turn(None)), [])

    def test_bars(self):
        self.assertEqual(self.walked(bar(), bar(), bar()), [0, 1, 2])

    def test_of_the_part_named(self):
        handed = score(part("a", bar()), part("b", bar(), bar()))
        self.assertEqual((walk(handed, "a"), walk(handed, "b")), ([0], [0, 1]))
        self.assertEqual((unfolded(handed, "a"), unfolded(handed, "b")), ([(0,)], [(0,), (1,)]))

    def test_goals_one_after_the_other(self):
        self.assertEqual(self.walked(sign("s"), bar(), turn("s", "s", "e"), bar(), sign("e")), [0, 0, 0])
        self.assertEqual(self.walked(sign("s"), bar(), turn("s", None, "e"), bar(), sign("e")), [0, 0, 2])

    def test_round_and_round(self):
        things = (sign("s"), bar(), sign("t"), bar(), turn("t", "s"), bar(), turn("s", "e"), sign("e"))
        self.refused(*things, plain=False)
        things = (sign("s"), bar(), turn("s", None), bar(), turn("s", "s", None), bar())
        self.assertEqual(self.walked(*things), [0, 0, 2, 0, 0, 2, 0, 0, 2, 4])

    def test_to_themselves(self):
        self.assertEqual(self.walked(bar(), sign("s"), turn("s", "s", None), bar()), [0, 2])
        self.refused(sign("s"), turn("s"), plain=False)
        self.refused(sign("s"), turn("s", "s", "s"), plain=False)

    def test_to_the_end(self):
        self.assertEqual(self.walked(bar(), turn(None, "e"), bar(), turn("s"), bar(), sign("s"), sign("e")), [0, 2])
        self.assertEqual(self.walked(turn("e"), bar(), sign("e")), [])

    def test_out_of_repeats_and_into_them(self):
        # Out of the repeat at its second time; what is come to again counts on from there.
        things = (sign("b"), repeat(3, bar(), turn(None, "o"), bar()), sign("o"), bar(), turn("b", None))
        self.assertEqual(self.walked(*things), [0, 2, 0, 4, 0, 2, 0, 4])
        things = (turn("i"), repeat(2, bar(), sign("i"), bar()), bar())
        self.assertEqual(self.walked(*things), [2, 1, 2, 4])

    def test_of_endings(self):
        things = (ended(4, (bar(),), ((2,), (bar(),)), ((1, 4), (bar(), bar())), ((3,), ())),)
        self.assertEqual(self.walked(*things), [0, 4, 5, 0, 2, 0, 0, 4, 5])


class Bounds(Walks):
    def test_bars(self):
        fifty = {"t": (bar(),) * 50}
        self.assertEqual(self.walked(*(use("t"),) * 20, phrases=fifty), list(range(1000)))
        self.refused(*(use("t"),) * 20, bar(), phrases=fifty)
        self.assertEqual(len(self.walked(repeat(5, *(use("t"),) * 4), phrases=fifty)), 1000)
        self.refused(repeat(5, *(use("t"),) * 4), bar(), phrases=fifty)
        self.assertEqual(len(unfolded(one_part(repeat(5, *(use("t"),) * 4), repeat(3), phrases=fifty), "a")), 1000)
        self.refused(sign("s"), bar(), turn("s"), plain=False)
        self.refused(sign("s"), bar(), turn("s", "s"), bar(), plain=False)

    def test_turns(self):
        self.assertEqual(self.walked(MOST, REST), [])
        self.refused(MOST, REST, repeat(1))
        self.refused(repeat(1), MOST, REST)
        self.refused(MOST, REST, turn(None), plain=False)
        self.assertEqual(self.walked(MOST, REST, sign("s")), [])

    def test_turns_with_bars_between(self):
        self.assertEqual(self.walked(bar(), MOST, bar(), REST, bar()), [0, 5, 10])
        self.refused(bar(), MOST, bar(), REST, bar(), repeat(1))
        inner = repeat(9, repeat(9, repeat(9, repeat(4)), bar()))
        self.assertEqual(len(self.walked(inner, REST)), 81)
        self.refused(inner, REST, repeat(1))
        self.assertEqual(len(unfolded(one_part(inner, REST), "a")), 81)

    def test_both_bounds_at_once(self):
        fifty = {"t": (bar(),) * 50}
        things = (MOST, repeat(5, *(use("t"),) * 4), repeat(5, repeat(3, repeat(4, repeat(3)))))
        self.assertEqual(len(self.walked(*things, phrases=fifty)), 1000)
        self.assertEqual(len(unfolded(one_part(*things, phrases=fifty), "a")), 1000)
        self.refused(*things, repeat(1), phrases=fifty)
        self.refused(*things, bar(), phrases=fifty)

    def test_endings_count_their_turns(self):
        # Each time round comes to the repeat's turn and to that of an ending.
        self.assertEqual(self.walked(MOST, repeat(9, repeat(9)), *(ended(5, (), ((1, 2, 3, 4, 5), ())),) * 17, repeat(5)), [])
        self.refused(MOST, repeat(9, repeat(9)), *(ended(5, (), ((1, 2, 3, 4, 5), ())),) * 17, repeat(6))

    def test_a_line_that_is_too_long(self):
        fifty = {"e": (), "f": (use("e"),) * 50, "r": (repeat(1),) * 50, "t": (bar(),) * 50}
        self.refused(turn("e"), *(use("t"),) * 40, sign("e"), phrases=fifty, plain=False)
        self.refused(*(use("r"),) * 40, bar(), phrases=fifty)
        fifty["u"] = (bar(),) * 31
        full = (*(use("r"),) * 39, *(repeat(1),) * 19, use("u"))
        self.assertEqual(self.walked(*full, phrases=fifty), list(range(1969, 2000)))
        self.refused(*full, bar(), phrases=fifty)
        self.refused(*(use("f"),) * 39, *(use("e"),) * 12, phrases=fifty)
        self.assertEqual(unfolded(one_part(*(use("f"),) * 39, *(use("e"),) * 11, phrases=fifty), "a"), [])

    def test_phrases_twelve_deep(self):
        letters = "abcdefghijkl"
        phrases = {"a": ()}
        for number in range(1, 12):
            phrases[letters[number]] = (use(letters[number - 1]),) * 60
        self.refused(use("l"), phrases=phrases)
        handed = score(part("long", use("l")), part("short", bar()), phrases=sorted(phrases.items()))
        self.assertEqual((walk(handed, "short"), unfolded(handed, "short")), ([0], [(0,)]))


class Unfolding(Walks):
    def test_repeats_in_repeats(self):
        handed = one_part(bar(), repeat(2, bar(), repeat(3, bar()), bar()), bar())
        rows = [(1, 0), (1, 1, 0), (1, 1, 0), (1, 1, 0), (1, 2)]
        self.assertEqual(unfolded(handed, "a"), [(0,), *rows, *rows, (2,)])
        self.assertEqual(ways(handed), unfolded(handed, "a"))

    def test_endings(self):
        handed = one_part(ended(4, (bar(),), ((2,), (bar(),)), ((1, 4), (bar(), repeat(2, bar()))), ((3,), ())))
        told = [(0, 0), (0, 2), (0, 3, 0), (0, 3, 0), (0, 0), (0, 1), (0, 0), (0, 0), (0, 2), (0, 3, 0), (0, 3, 0)]
        self.assertEqual(unfolded(handed, "a"), told)
        self.assertEqual(ways(handed), told)

    def test_phrases(self):
        phrases = {"p": (bar(), use("q"), repeat(2, use("q"))), "q": (ended(2, (bar(),), ((1,), (bar(),)), ((2,), ())),)}
        handed = one_part(use("p"), repeat(2, use("q")), phrases=phrases)
        once = [(0, 0), (0, 1), (0, 0)]
        told = [(0, 0), *[(0, 1, *way) for way in once], *[(0, 2, 0, *way) for way in once * 2], *[(1, 0, *way) for way in once * 2]]
        self.assertEqual(unfolded(handed, "a"), told)
        self.assertEqual(ways(handed), told)

    def test_of_nothing(self):
        for handed in [one_part(), one_part(repeat(3)), one_part(ended(2, (), ((1, 2), ()))), one_part(use("p"), phrases={"p": ()})]:
            self.assertEqual(unfolded(handed, "a"), [])
            self.assertEqual(walk(handed, "a"), [])

    def test_the_walk_is_the_plain_unfolding(self):
        chance = random.Random(8)
        told, refused = 0, 0
        for _ in range(600):
            phrases = {"p": some_things(chance, [], 2)}
            phrases["q"] = some_things(chance, ["p"], 2)
            phrases["r"] = some_things(chance, ["p", "q"], 2)
            handed = one_part(*some_things(chance, ["p", "q", "r"], 3), phrases=phrases)
            checked(handed)
            try:
                walked = ways(handed)
            except TooLong:
                refused += 1
                self.assertRaises(TooLong, unfolded, handed, "a")
                continue
            told += 1
            self.assertEqual(walked, unfolded(handed, "a"))
            self.assertEqual(walked, list(plain_row(phrases, handed[2][0][3], (), 0)))
        self.assertGreater(told, 400)
        self.assertGreater(refused, 0)


class Own(Walks):
    def test_told_anew(self):
        handed = one_part(repeat(2, bar(), use("p")), phrases={"p": (bar(),)})
        for tell in [walk, unfolded]:
            first = tell(handed, "a")
            kept = list(first)
            first.reverse()
            first.append(None)
            self.assertEqual(tell(handed, "a"), kept)
            self.assertIs(type(kept), list)
        self.assertEqual(handed, one_part(repeat(2, bar(), use("p")), phrases={"p": (bar(),)}))

    def test_a_rich_score_is_as_it_was(self):
        handed = rich_score()
        try:
            walk(handed, "flute")
        except TooLong:
            pass
        self.assertEqual(walk(handed, "drum"), [])
        self.assertEqual(handed, rich_score())


if __name__ == "__main__":
    unittest.main()
